package wire

import (
	"bytes"
	"encoding/binary"
	"math/rand"
	"reflect"
	"testing"

	"roundhouse/api"
	"roundhouse/sum"
)

// plainSummed is W3's bytes, laid out once more.
func plainSummed(b []byte) []byte {
	var l []byte
	if b[0] != api.Fault {
		l = append(l, b[4:12]...)
	}
	l = append(l, 0, b[0], byte((len(b)-16)/256), byte((len(b)-16)%256))
	l = append(l, b[16:]...)
	if len(l)%2 == 1 {
		l = append(l, 0)
	}
	return l
}

// lay lays a packet out by W2 and W3, with right sums.
func lay(p api.Packet) []byte {
	b := []byte{byte(p.Kind), byte(p.Life), 0, 0}
	b = binary.BigEndian.AppendUint32(b, uint32(p.From))
	b = binary.BigEndian.AppendUint32(b, uint32(p.To))
	b = append(b, byte(p.Piece), 0, 0, 0)
	at := 22
	switch p.Kind {
	case api.Stream:
		b = binary.BigEndian.AppendUint16(b, uint16(p.FromPort))
		b = binary.BigEndian.AppendUint16(b, uint16(p.ToPort))
		b = append(b, byte(p.Flags), byte(len(p.Opts)), 0, 0)
		b = append(b, p.Opts...)
	case api.Gram:
		b = binary.BigEndian.AppendUint16(b, uint16(p.FromPort))
		b = binary.BigEndian.AppendUint16(b, uint16(p.ToPort))
		b = binary.BigEndian.AppendUint16(b, uint16(p.Label))
		b = append(b, 0, 0)
	case api.Fault:
		b = append(b, byte(p.Code), 0, 0, 0)
		at = 18
	}
	b = append(b, p.Data...)
	binary.BigEndian.PutUint16(b[2:], uint16(len(b)))
	binary.BigEndian.PutUint16(b[14:], uint16(sum.Of(b[:16])))
	if p.Kind == api.Gram && p.Bare {
		return b
	}
	s := sum.Of(plainSummed(b))
	if s == 0 && p.Kind == api.Gram {
		s = 65535
	}
	binary.BigEndian.PutUint16(b[at:], uint16(s))
	return b
}

func list(r *rand.Rand, n int) []byte {
	b := make([]byte, n)
	for i := range b {
		b[i] = []byte{0, 255, byte(r.Intn(256))}[r.Intn(3)]
	}
	return b
}

func addr(r *rand.Rand) int { return []int{0, 1<<32 - 1, 0xffff0000, r.Intn(1 << 32)}[r.Intn(4)] }

func port(r *rand.Rand) int { return []int{0, 65535, r.Intn(65536)}[r.Intn(3)] }

// some makes a packet that may be.
func some(r *rand.Rand) api.Packet {
	p := api.Packet{Kind: 1 + r.Intn(3), Life: []int{0, 1, 2, 255, r.Intn(256)}[r.Intn(5)], Piece: r.Intn(256), From: addr(r), To: addr(r)}
	p.Data = list(r, []int{0, 1, 2, 24, r.Intn(80), r.Intn(1400), 1400}[r.Intn(7)])
	switch p.Kind {
	case api.Fault:
		p.Code = r.Intn(256)
		p.Data = append(p.Data, list(r, 24)...)
		return p
	case api.Gram:
		p.Label = port(r)
		p.Bare = r.Intn(3) == 0
	default:
		p.Flags = r.Intn(16)
		p.Opts = list(r, []int{0, 1, 40, r.Intn(41)}[r.Intn(4)])
	}
	p.FromPort, p.ToPort = port(r), port(r)
	return p
}

func same(a, b api.Packet) bool {
	if !bytes.Equal(a.Opts, b.Opts) || !bytes.Equal(a.Data, b.Data) {
		return false
	}
	a.Opts, a.Data, b.Opts, b.Data = nil, nil, nil, nil
	return reflect.DeepEqual(a, b)
}

// P302, P304, W2, W3
func TestThereAndBack(t *testing.T) {
	r := rand.New(rand.NewSource(1))
	for range 4000 {
		p := some(r)
		b, no := Build(p)
		if no != api.OK || !bytes.Equal(b, lay(p)) {
			t.Fatalf("Build %+v: %x %v, not %x", p, b, no, lay(p))
		}
		if !Whole(b) {
			t.Fatalf("%x is not whole", b)
		}
		back, no := Parse(b)
		if no != api.OK || !same(back, p) {
			t.Fatalf("Parse of Build: %+v %v, not %+v", back, no, p)
		}
	}
}

// P301, P302
func TestKnown(t *testing.T) {
	b, no := Build(api.Packet{Kind: api.Gram, Life: 64, From: 0x01020304, To: 10, FromPort: 7, ToPort: 80, Label: 0x1234, Data: []byte{9}})
	want := []byte{2, 64, 0, 25, 1, 2, 3, 4, 0, 0, 0, 10, 0, 0, 0xf9, 0x96, 0, 7, 0, 80, 0x12, 0x34, 0xe0, 0x59, 9}
	if no != api.OK || !bytes.Equal(b, want) {
		t.Errorf("%x %v, not %x", b, no, want)
	}
	if p, no := Parse(nil); no != api.Short || !same(p, api.Packet{}) {
		t.Error("example")
	}
}

// fix makes the head's sum right.
func fix(b []byte) []byte {
	b[14], b[15] = 0, 0
	binary.BigEndian.PutUint16(b[14:], uint16(sum.Of(b[:16])))
	return b
}

// cut is b, shortened to n bytes (or lengthened by noughts), with a head that says so.
func cut(b []byte, n int) []byte {
	out := make([]byte, n)
	copy(out, b)
	binary.BigEndian.PutUint16(out[2:], uint16(n))
	return fix(out)
}

func with(b []byte, at int, v byte) []byte {
	out := bytes.Clone(b)
	out[at] = v
	return out
}

// P301
func TestParseErrors(t *testing.T) {
	stream := lay(api.Packet{Kind: api.Stream, Life: 9, From: 1, To: 2, Opts: []byte{1, 1, 1}, Data: []byte{5, 6}})
	gram := lay(api.Packet{Kind: api.Gram, Life: 9, From: 1, To: 2})
	fault := lay(api.Packet{Kind: api.Fault, Life: 9, From: 1, To: 2, Data: make([]byte, 24)})
	for i, x := range []struct {
		b    []byte
		want api.Errno
	}{
		{nil, api.Short}, {stream[:15], api.Short}, {make([]byte, 15), api.Short},
		{make([]byte, 16), api.BadKind}, {with(stream, 0, 4), api.BadKind}, {with(stream[:20], 0, 0), api.BadKind},
		{stream[:16], api.BadLen}, {append(bytes.Clone(stream), 0), api.BadLen}, {with(stream, 2, 1), api.BadLen},
		{with(stream, 13, 1), api.BadLen}, {fix(with(stream, 13, 1)), api.BadLen},
		{cut(gram, 1500), api.OK}, {cut(gram, 1501), api.BadLen}, {cut(gram, 65535), api.BadLen},
		{with(stream, 15, stream[15]^1), api.BadSum}, {with(stream, 1, 8), api.BadSum}, {with(cut(stream, 16), 5, 77), api.BadSum},
		{cut(stream, 16), api.Short}, {cut(stream, 23), api.Short}, {cut(gram, 23), api.Short}, {cut(gram, 24), api.OK},
		{cut(fault, 43), api.Short}, {cut(fault, 44), api.OK}, {cut(with(fault, 17, 1), 43), api.Short},
		{with(stream, 20, 16), api.BadOpt}, {with(stream, 20, 15), api.OK}, {with(stream, 20, 255), api.BadOpt},
		{with(stream, 21, 5), api.OK}, {with(stream, 21, 6), api.BadOpt}, {with(stream, 21, 0), api.OK},
		{with(cut(stream, 100), 21, 40), api.OK}, {with(cut(stream, 100), 21, 41), api.BadOpt},
		{with(gram, 20, 255), api.OK}, {with(fault, 17, 1), api.BadKind}, {with(fault, 17, 255), api.BadKind},
		{with(fault, 18, 99), api.OK}, {with(stream, 22, 99), api.OK},
	} {
		p, no := Parse(x.b)
		if no != x.want || no != api.OK && !same(p, api.Packet{}) {
			t.Errorf("%d: %x: %v, not %v", i, x.b, no, x.want)
		}
		if x.want != api.OK && Whole(x.b) {
			t.Errorf("%d: whole", i)
		}
		if x.want == api.OK {
			continue
		}
		if b, no := Age(x.b); no != x.want || b != nil {
			t.Errorf("%d: Age: %v", i, no)
		}
		if b, no := Nat(x.b, true, -1, 0); no != x.want || b != nil {
			t.Errorf("%d: Nat: %v", i, no)
		}
		if b, no := Write(x.b, 0, 3, 0); no != x.want || b != nil {
			t.Errorf("%d: Write: %v", i, no)
		}
	}
}

// P301: fields that a kind has not stay noughts.
func TestParseFields(t *testing.T) {
	p, no := Parse(with(lay(api.Packet{Kind: api.Fault, Life: 3, Piece: 4, From: 5, To: 6, Code: 7, Data: bytes.Repeat([]byte{255}, 30)}), 18, 0))
	if no != api.OK || !same(p, api.Packet{Kind: api.Fault, Life: 3, Piece: 4, From: 5, To: 6, Code: 7, Data: bytes.Repeat([]byte{255}, 30)}) {
		t.Errorf("%+v", p)
	}
	p, no = Parse(with(with(lay(api.Packet{Kind: api.Stream, Flags: 3, Opts: []byte{4}, Data: []byte{5}}), 22, 0), 23, 0))
	if no != api.OK || !same(p, api.Packet{Kind: api.Stream, Flags: 3, Opts: []byte{4}, Data: []byte{5}}) {
		t.Errorf("%+v", p)
	}
}

// P301, W3
func TestWhole(t *testing.T) {
	r := rand.New(rand.NewSource(2))
	for range 3000 {
		b := lay(some(r))
		at := 16 + r.Intn(len(b)-16)
		b[at] ^= byte(1 << r.Intn(8))
		if _, no := Parse(b); no != api.OK {
			if Whole(b) {
				t.Fatalf("%x is whole", b)
			}
			continue
		}
		right := b[0] == api.Gram && b[22] == 0 && b[23] == 0 || sum.Right(plainSummed(b))
		if Whole(b) != right {
			t.Fatalf("%x: whole is %v", b, !right)
		}
	}
}

// P302
func TestBuildErrors(t *testing.T) {
	big := make([]byte, 1501)
	stream := api.Packet{Kind: api.Stream}
	gram := api.Packet{Kind: api.Gram}
	fault := api.Packet{Kind: api.Fault, Data: make([]byte, 24)}
	as := func(p api.Packet, change func(*api.Packet)) api.Packet {
		change(&p)
		return p
	}
	for i, x := range []struct {
		p    api.Packet
		want api.Errno
	}{
		{api.Packet{}, api.BadKind}, {api.Packet{Kind: 4, Life: -1}, api.BadKind}, {api.Packet{Kind: -1}, api.BadKind}, {api.Packet{Kind: 257}, api.BadKind},
		{stream, api.OK}, {gram, api.OK}, {fault, api.OK},
		{as(stream, func(p *api.Packet) { p.Life = 255 }), api.OK}, {as(stream, func(p *api.Packet) { p.Life = 256 }), api.Range}, {as(fault, func(p *api.Packet) { p.Life = -1 }), api.Range},
		{as(stream, func(p *api.Packet) { p.Piece = 255 }), api.OK}, {as(gram, func(p *api.Packet) { p.Piece = 256 }), api.Range}, {as(gram, func(p *api.Packet) { p.Piece = -1 }), api.Range},
		{as(stream, func(p *api.Packet) { p.From = 1 << 32 }), api.Range}, {as(fault, func(p *api.Packet) { p.To = -1 }), api.Range}, {as(fault, func(p *api.Packet) { p.To, p.From = 1<<32-1, 1<<32-1 }), api.OK},
		{as(stream, func(p *api.Packet) { p.FromPort = 65536 }), api.Range}, {as(gram, func(p *api.Packet) { p.ToPort = -1 }), api.Range}, {as(gram, func(p *api.Packet) { p.ToPort, p.FromPort = 65535, 65535 }), api.OK},
		{as(stream, func(p *api.Packet) { p.Flags = 16 }), api.Range}, {as(stream, func(p *api.Packet) { p.Flags = -1 }), api.Range}, {as(stream, func(p *api.Packet) { p.Flags = 15 }), api.OK},
		{as(gram, func(p *api.Packet) { p.Label = 65536 }), api.Range}, {as(gram, func(p *api.Packet) { p.Label = -1 }), api.Range},
		{as(fault, func(p *api.Packet) { p.Code = 256 }), api.Range}, {as(fault, func(p *api.Packet) { p.Code = -1 }), api.Range}, {as(fault, func(p *api.Packet) { p.Code = 255 }), api.OK},
		{as(stream, func(p *api.Packet) { p.Opts, p.Flags = big[:41], 16 }), api.Range}, {as(stream, func(p *api.Packet) { p.Opts, p.Data = big[:41], big }), api.BadOpt}, {as(stream, func(p *api.Packet) { p.Opts = big[:40] }), api.OK},
		{as(fault, func(p *api.Packet) { p.Data = big[:23] }), api.BadLen}, {as(fault, func(p *api.Packet) { p.Data = big[:1480] }), api.OK}, {as(fault, func(p *api.Packet) { p.Data = big[:1481] }), api.BadLen},
		{as(stream, func(p *api.Packet) { p.Opts, p.Data = big[:40], big[:1436] }), api.OK}, {as(stream, func(p *api.Packet) { p.Opts, p.Data = big[:40], big[:1437] }), api.BadLen},
		{as(gram, func(p *api.Packet) { p.Data = big[:1476] }), api.OK}, {as(gram, func(p *api.Packet) { p.Data = big[:1477] }), api.BadLen},
		{as(stream, func(p *api.Packet) { p.Label, p.Code, p.Bare = -1, -1, true }), api.OK},
		{as(gram, func(p *api.Packet) { p.Flags, p.Code, p.Opts = -1, -1, big }), api.OK},
		{as(fault, func(p *api.Packet) {
			p.Flags, p.Label, p.FromPort, p.ToPort, p.Opts, p.Bare = -1, -1, -1, -1, big, true
		}), api.OK},
	} {
		b, no := Build(x.p)
		if no != x.want || no != api.OK && b != nil {
			t.Errorf("%d: %v, not %v", i, no, x.want)
		}
		if no == api.OK && !Whole(b) {
			t.Errorf("%d: %x is not whole", i, b)
		}
	}
}

// P302: a sum that would be 0 is 65535 in a gram alone.
func TestBuildNoughtSum(t *testing.T) {
	for _, kind := range []int{api.Stream, api.Gram} {
		p := api.Packet{Kind: kind, Data: []byte{0, 0}}
		b := lay(p)
		p.Data = b[22:24:24]
		b, no := Build(p)
		want := []byte{255, 255}
		if kind == api.Stream {
			want = []byte{0, 0}
		}
		if no != api.OK || !bytes.Equal(b[22:24], want) || !Whole(b) {
			t.Errorf("%x %v", b, no)
		}
	}
}
