package plane

import (
	"bytes"
	"math/rand"
	"reflect"
	"testing"

	"roundhouse/api"
	"roundhouse/cookie"
	"roundhouse/opts"
	"roundhouse/pool"
	"roundhouse/wheel"
	"roundhouse/wire"
)

const ownAddr, ownPort = 0x0a000001, 80

// backend is where the backend of a slot stands.
func backend(slot int) (int, int) { return 0xc0a80000 + slot*0x10101, 8000 + slot }

// apply applies entries, all of which must be done.
func apply(t *testing.T, p api.Pool, l ...api.Entry) api.Pool {
	t.Helper()
	p, _, no := pool.All(p, l...)
	if no != api.OK {
		t.Fatal(no)
	}
	return p
}

func bind(slot int) api.Entry {
	addr, port := backend(slot)
	return api.Entry{Kind: api.EBind, Slot: slot, Addr: addr, Port: port, Weight: 1 + slot%8}
}

func do(kind, slot int) api.Entry { return api.Entry{Kind: kind, Slot: slot} }

func rotate(n int) api.Entry {
	return api.Entry{Kind: api.ERotate, Key: api.Key{A: uint64(n), B: 77}}
}

func empty(t *testing.T) api.Pool {
	t.Helper()
	p, no := pool.New(ownAddr, ownPort, api.Key{A: 1, B: 1}, api.Key{A: 2, B: 2})
	if no != api.OK {
		t.Fatal(no)
	}
	return p
}

// mixed has slots of all states: 0, 1, 63 active, 2 fresh, 3 drains, 4 shut; in epoch 4.
func mixed(t *testing.T) api.Pool {
	t.Helper()
	return apply(t, empty(t), rotate(3), rotate(4), rotate(5),
		bind(0), do(api.EOpen, 0), bind(1), do(api.EOpen, 1), bind(63), do(api.EOpen, 63),
		bind(2), bind(3), do(api.EOpen, 3), do(api.EDrain, 3), bind(4), do(api.EShut, 4))
}

func up(p api.Pool) *Plane {
	x := New()
	x.Load(p)
	return x
}

func build(t *testing.T, p api.Packet) []byte {
	t.Helper()
	b, no := wire.Build(p)
	if no != api.OK {
		t.Fatalf("%+v: %v", p, no)
	}
	return b
}

func parse(t *testing.T, b []byte) api.Packet {
	t.Helper()
	p, no := wire.Parse(b)
	if no != api.OK {
		t.Fatalf("%x: %v", b, no)
	}
	return p
}

func same(a, b api.Packet) bool {
	if !bytes.Equal(a.Opts, b.Opts) || !bytes.Equal(a.Data, b.Data) {
		return false
	}
	a.Opts, a.Data, b.Opts, b.Data = nil, nil, nil, nil
	return reflect.DeepEqual(a, b)
}

func dropped(o api.Outcome, why api.Errno) bool {
	return o.Drop == why && o.Slot == -1 && !o.Cookie && len(o.Bytes) == 0
}

// stamped is options with a stamp, and something ahead.
func stamped(val, echo uint32) []byte {
	return append([]byte{5, 3, 9}, opts.Make(val, echo)...)
}

// laid is b with a number of four bytes at at.
func laid(b []byte, at int, v uint32) []byte {
	out := bytes.Clone(b)
	copy(out[at:], []byte{byte(v >> 24), byte(v >> 16), byte(v >> 8), byte(v)})
	return out
}

// model tells what Take must answer, over packets taken apart: the outcome but for its bytes, and the packet that goes on.
func model(x api.Pool, near map[int]uint32, b []byte) (api.Outcome, api.Packet) {
	p, no := wire.Parse(b)
	drop := func(why api.Errno) (api.Outcome, api.Packet) { return api.Outcome{Drop: why, Slot: -1}, api.Packet{} }
	if no != api.OK {
		return drop(no)
	}
	if p.Piece != 0 {
		return drop(api.Broken)
	}
	if p.Life < 2 {
		return drop(api.Expired)
	}
	p.Life--
	at, val, echo, is := opts.Stamp(p.Opts)
	if p.Kind == api.Fault {
		d := p.Data
		word := func(at int) int { return int(d[at])<<8 + int(d[at+1]) }
		if p.To != x.Addr || d[0] != 1 && d[0] != 2 || word(4)<<16+word(6) != x.Addr || word(16) != x.Port {
			return drop(api.Stranger)
		}
		slot := wheel.Pick(wheel.Make(x), api.Flow{Addr: word(8)<<16 + word(10), Port: word(18), ToAddr: x.Addr, ToPort: x.Port})
		if slot == -1 {
			return drop(api.NoBack)
		}
		s := x.Slots[slot]
		p.To = s.Addr
		p.Data = laid(d, 4, uint32(s.Addr))
		p.Data[16], p.Data[17] = byte(s.Port>>8), byte(s.Port)
		return api.Outcome{Slot: slot}, p
	}
	if p.To != x.Addr || p.ToPort != x.Port {
		slot, found := pool.Find(x, p.From, p.FromPort)
		if !found {
			return drop(api.Stranger)
		}
		c := cookie.Make(x.Ring, p.Kind, api.Flow{Addr: p.To, Port: p.ToPort, ToAddr: x.Addr, ToPort: x.Port}, slot)
		p.From, p.FromPort = x.Addr, x.Port
		if p.Kind == api.Gram {
			p.Label = c
		} else if is {
			p.Opts = laid(p.Opts, at, cookie.Put(val, c))
			near[slot] = val
		}
		return api.Outcome{Slot: -1}, p
	}
	f := api.Flow{Addr: p.From, Port: p.FromPort, ToAddr: x.Addr, ToPort: x.Port}
	o := api.Outcome{Slot: -1}
	read := func(c int) {
		if slot, may := cookie.Read(x.Ring, p.Kind, f, c); may && x.Slots[slot].State != api.Free && x.Slots[slot].State != api.Shut {
			o.Slot, o.Cookie = slot, true
		}
	}
	if p.Kind == api.Gram && p.Label != 0 {
		read(p.Label)
	}
	if p.Kind == api.Stream && is && p.Flags != api.Opening {
		_, c := cookie.Get(echo)
		read(c)
	}
	if !o.Cookie {
		o.Slot = wheel.Pick(wheel.Make(x), f)
	}
	if o.Slot == -1 {
		return drop(api.NoBack)
	}
	p.To, p.ToPort = x.Slots[o.Slot].Addr, x.Slots[o.Slot].Port
	if is && echo != 0 {
		v := uint32(0)
		if n, has := near[o.Slot]; has {
			v = cookie.Back(echo, n)
		}
		p.Opts = laid(p.Opts, at+4, v)
	}
	return o, p
}

// check holds Take against the model, and T4.
func check(t *testing.T, p *Plane, x api.Pool, near map[int]uint32, b []byte) api.Outcome {
	t.Helper()
	want, packet := model(x, near, b)
	before := string(b)
	o := p.Take(b)
	if string(b) != before {
		t.Fatal("what was handed in has changed")
	}
	if o.Drop != want.Drop || o.Slot != want.Slot || o.Cookie != want.Cookie {
		t.Fatalf("Take(%x): %+v, not %+v", b, o, want)
	}
	for slot := -1; slot < 65; slot++ {
		n, has := near[slot]
		if got, is := p.Near(slot); got != n || is != has {
			t.Fatalf("Near of %d: %d %v", slot, got, is)
		}
	}
	if o.Drop != api.OK {
		if len(o.Bytes) != 0 {
			t.Fatal("what is dropped has bytes")
		}
		return o
	}
	if got := parse(t, o.Bytes); !same(got, packet) {
		t.Fatalf("Take(%x): %+v, not %+v", b, got, packet)
	}
	if len(o.Bytes) != len(b) || wire.Whole(o.Bytes) != wire.Whole(b) {
		t.Fatalf("T4: %x, %x", b, o.Bytes)
	}
	if wire.Whole(b) && b[0] != api.Gram && !bytes.Equal(o.Bytes, build(t, packet)) {
		t.Fatalf("%x, not %x", o.Bytes, build(t, packet))
	}
	return o
}

// somewhere is an address and a port: the pool's, a backend's, or another one.
func somewhere(r *rand.Rand) (int, int) {
	switch r.Intn(5) {
	case 0, 1:
		return ownAddr, ownPort
	case 2:
		return backend([]int{0, 1, 2, 3, 4, 5, 63}[r.Intn(7)])
	case 3:
		return ownAddr, 81
	}
	return r.Intn(3), r.Intn(3)
}

// someCookie is one that was made for the flow, in an epoch around, or near it, or any number.
func someCookie(r *rand.Rand, x api.Pool, p api.Packet) int {
	g := x.Ring
	switch r.Intn(4) {
	case 0:
		g = cookie.Ring(g.Epoch-1, api.Key{}, g.Prev, g.Cur)
	case 1:
		g = cookie.Ring(g.Epoch+1, g.Cur, g.Next, api.Key{})
	case 2:
		g = cookie.Ring(g.Epoch+r.Intn(4), g.Cur, g.Cur, g.Cur)
	}
	c := cookie.Make(g, p.Kind, api.Flow{Addr: p.From, Port: p.FromPort, ToAddr: x.Addr, ToPort: x.Port}, []int{0, 1, 2, 3, 4, 5, 63}[r.Intn(7)])
	if r.Intn(5) == 0 {
		c ^= 1 << r.Intn(16)
	}
	return c
}

// somePacket is bytes of a packet, most of which go on.
func somePacket(t *testing.T, r *rand.Rand, x api.Pool) []byte {
	p := api.Packet{Kind: 1 + r.Intn(3), Life: []int{0, 1, 2, 64, 255}[min(r.Intn(40), 4)], Data: make([]byte, r.Intn(5))}
	if r.Intn(30) == 0 {
		p.Piece = 1 + r.Intn(255)
	}
	p.From, p.FromPort = somewhere(r)
	p.To, p.ToPort = somewhere(r)
	switch p.Kind {
	case api.Fault:
		inner := api.Packet{Kind: 1 + r.Intn(2), From: p.To, To: r.Intn(1 << 32), FromPort: ownPort, ToPort: r.Intn(65536), Life: r.Intn(256), Data: []byte{1, 2, 3}}
		p.Data, p.Code = build(t, inner), r.Intn(256)
		if r.Intn(3) == 0 {
			p.Data[[]int{0, 4, 7, 16, 17}[r.Intn(5)]] ^= byte(1 << r.Intn(8))
		}
	case api.Gram:
		p.Bare = r.Intn(4) == 0
		p.Label = []int{0, r.Intn(65536), someCookie(r, x, p), someCookie(r, x, p)}[r.Intn(4)]
	default:
		p.Flags = r.Intn(16)
		if r.Intn(8) == 0 {
			p.Flags = api.Opening
		}
		echo := []uint32{0, r.Uint32(), cookie.Put(r.Uint32(), someCookie(r, x, p)), cookie.Put(r.Uint32(), someCookie(r, x, p))}[r.Intn(4)]
		p.Opts = [][]byte{nil, {1, 1, 0}, {9, 1}, stamped(r.Uint32(), echo), stamped(r.Uint32(), echo), opts.Make(r.Uint32(), echo)}[r.Intn(6)]
	}
	b := build(t, p)
	switch r.Intn(12) {
	case 0:
		at := 22
		if p.Kind == api.Fault {
			at = 18
		}
		b[at] ^= 1
	case 1:
		b[r.Intn(len(b))] ^= byte(1 << r.Intn(8))
	}
	return b
}

// P901
func TestUpAndDown(t *testing.T) {
	p := New()
	for range 2 {
		if v, is := p.Version(); is || v != 0 {
			t.Error("a new one is up")
		}
		if n, is := p.Near(0); is || n != 0 {
			t.Error("a new one has a stamp")
		}
		for _, b := range [][]byte{nil, {1}, build(t, api.Packet{Kind: api.Gram, To: ownAddr, ToPort: ownPort, Life: 5})} {
			if o := p.Take(b); !dropped(o, api.NotUp) {
				t.Errorf("%+v", o)
			}
		}
		x := mixed(t)
		p.Load(x)
		if v, is := p.Version(); !is || v != x.Version {
			t.Errorf("%d %v", v, is)
		}
		x = apply(t, x, rotate(9))
		p.Load(x)
		if v, is := p.Version(); !is || v != x.Version {
			t.Errorf("%d %v", v, is)
		}
		addr, port := backend(1)
		p.Take(build(t, api.Packet{Kind: api.Stream, From: addr, FromPort: port, Life: 5, Opts: opts.Make(77, 0)}))
		if n, is := p.Near(1); !is || n != 77 {
			t.Errorf("%d %v", n, is)
		}
		p.Load(x)
		if n, is := p.Near(1); !is || n != 77 {
			t.Error("Load does not touch what came from backends")
		}
		p.Crash()
	}
}

// P902
func TestDrops(t *testing.T) {
	p := up(mixed(t))
	in := api.Packet{Kind: api.Gram, Life: 9, From: 1, FromPort: 1, To: ownAddr, ToPort: ownPort}
	as := func(change func(*api.Packet)) []byte {
		x := in
		change(&x)
		return build(t, x)
	}
	b := build(t, in)
	spoilt := bytes.Clone(b)
	spoilt[15] ^= 1
	addr, port := backend(0)
	for i, x := range []struct {
		b    []byte
		want api.Errno
	}{
		{nil, api.Short}, {make([]byte, 40), api.BadKind}, {b[:23], api.BadLen}, {spoilt, api.BadSum},
		{as(func(p *api.Packet) { p.Piece, p.Life, p.To = 1, 0, 5 }), api.Broken}, {as(func(p *api.Packet) { p.Piece = 255 }), api.Broken},
		{as(func(p *api.Packet) { p.Life, p.To = 0, 5 }), api.Expired}, {as(func(p *api.Packet) { p.Life = 1 }), api.Expired}, {as(func(p *api.Packet) { p.Life = 2 }), api.OK},
		{as(func(p *api.Packet) { p.To++ }), api.Stranger}, {as(func(p *api.Packet) { p.ToPort++ }), api.Stranger},
		{as(func(p *api.Packet) { p.To, p.From, p.FromPort = 5, addr, port+1 }), api.Stranger}, {as(func(p *api.Packet) { p.To, p.From, p.FromPort = 5, addr, port }), api.OK},
		{as(func(p *api.Packet) { p.ToPort, p.From, p.FromPort = 5, addr, port }), api.OK},
		{as(func(p *api.Packet) { p.Kind, p.To, p.From, p.Data = api.Fault, 5, addr, b }), api.Stranger},
	} {
		o := p.Take(x.b)
		if o.Drop != x.want || x.want != api.OK && !dropped(o, x.want) {
			t.Errorf("%d: %+v, not %v", i, o, x.want)
		}
	}
}

// P902 to P905, T3, T4
func TestAny(t *testing.T) {
	r := rand.New(rand.NewSource(1))
	x := mixed(t)
	none := apply(t, empty(t), bind(2), bind(3), do(api.EOpen, 3), do(api.EDrain, 3), rotate(3), rotate(4), rotate(5))
	for _, x := range []api.Pool{x, none} {
		p, near := up(x), map[int]uint32{}
		told := map[api.Errno]int{}
		ways := map[[2]bool]int{}
		for range 20000 {
			o := check(t, p, x, near, somePacket(t, r, x))
			told[o.Drop]++
			ways[[2]bool{o.Slot == -1, o.Cookie}]++
			if r.Intn(4000) == 0 {
				p.Crash()
				clear(near)
				p.Load(x)
			}
		}
		if told[api.OK] < 500 || told[api.Stranger] < 1000 || ways[[2]bool{false, true}] < 200 {
			t.Errorf("too little went on: %v %v", told, ways)
		}
	}
}

// P903
func TestOut(t *testing.T) {
	x := mixed(t)
	for _, slot := range []int{0, 2, 3, 63} {
		p := up(x)
		addr, port := backend(slot)
		f := api.Flow{Addr: 7, Port: 9, ToAddr: ownAddr, ToPort: ownPort}
		o := p.Take(build(t, api.Packet{Kind: api.Stream, Life: 64, From: addr, FromPort: port, To: 7, ToPort: 9, Flags: api.Answer | api.Opening, Opts: stamped(0x12345678, 5), Data: []byte{1}}))
		want := api.Packet{Kind: api.Stream, Life: 63, From: ownAddr, FromPort: ownPort, To: 7, ToPort: 9, Flags: 3, Opts: stamped(0x45600000|uint32(cookie.Make(x.Ring, api.Stream, f, slot)), 5), Data: []byte{1}}
		if o.Drop != api.OK || o.Slot != -1 || o.Cookie || !bytes.Equal(o.Bytes, build(t, want)) {
			t.Errorf("slot %d: %+v", slot, o)
		}
		if n, is := p.Near(slot); n != 0x12345678 || !is {
			t.Errorf("Near: %x %v", n, is)
		}
		o = p.Take(build(t, api.Packet{Kind: api.Gram, Life: 64, From: addr, FromPort: port, To: 7, ToPort: 9, Label: 4}))
		want = api.Packet{Kind: api.Gram, Life: 63, From: ownAddr, FromPort: ownPort, To: 7, ToPort: 9, Label: cookie.Make(x.Ring, api.Gram, f, slot)}
		if o.Drop != api.OK || o.Slot != -1 || o.Cookie || !bytes.Equal(o.Bytes, build(t, want)) {
			t.Errorf("slot %d: %+v", slot, o)
		}
		o = p.Take(build(t, api.Packet{Kind: api.Stream, Life: 64, From: addr, FromPort: port, To: 7, ToPort: 9, Opts: []byte{1, 1, 9, 1}}))
		want = api.Packet{Kind: api.Stream, Life: 63, From: ownAddr, FromPort: ownPort, To: 7, ToPort: 9, Opts: []byte{1, 1, 9, 1}}
		if o.Drop != api.OK || !bytes.Equal(o.Bytes, build(t, want)) {
			t.Errorf("slot %d: %+v", slot, o)
		}
	}
	addr, port := backend(4)
	if o := up(x).Take(build(t, api.Packet{Kind: api.Stream, Life: 64, From: addr, FromPort: port})); !dropped(o, api.Stranger) {
		t.Errorf("of a shut one: %+v", o)
	}
}

// P904
func TestIn(t *testing.T) {
	x := mixed(t)
	f := api.Flow{Addr: 7, Port: 9, ToAddr: ownAddr, ToPort: ownPort}
	picked := wheel.Pick(wheel.Make(x), f)
	stream := func(slot int) int { return cookie.Make(x.Ring, api.Stream, f, slot) }
	gram := func(slot int) int { return cookie.Make(x.Ring, api.Gram, f, slot) }
	for i, c := range []struct {
		kind, flags, carried, slot int
		by                         bool
	}{
		{api.Stream, 0, stream(0), 0, true}, {api.Stream, api.Answer, stream(2), 2, true}, {api.Stream, api.Opening | api.Answer, stream(3), 3, true},
		{api.Stream, api.Opening, stream(3), picked, false}, {api.Stream, 0, stream(4), picked, false}, {api.Stream, 0, stream(5), picked, false},
		{api.Stream, 0, stream(3) ^ 1, picked, false}, {api.Stream, 0, 0, picked, false}, {api.Stream, 0, stream(picked), picked, true},
		{api.Gram, 0, gram(0), 0, true}, {api.Gram, 0, gram(2), 2, true}, {api.Gram, 0, gram(3), 3, true}, {api.Gram, 0, gram(4), picked, false},
		{api.Gram, 0, gram(3) ^ 1, picked, false}, {api.Gram, 0, 0, picked, false},
	} {
		addr, port := backend(c.slot)
		in := api.Packet{Kind: c.kind, Life: 2, From: 7, FromPort: 9, To: ownAddr, ToPort: ownPort, Flags: c.flags, Data: []byte{1}}
		want := in
		want.Life, want.To, want.ToPort = 1, addr, port
		if c.kind == api.Stream {
			in.Opts, want.Opts = opts.Make(99, uint32(c.carried)), opts.Make(99, 0)
		} else {
			in.Label, want.Label = c.carried, c.carried
		}
		o := up(x).Take(build(t, in))
		if o.Drop != api.OK || o.Slot != c.slot || o.Cookie != c.by || !bytes.Equal(o.Bytes, build(t, want)) {
			t.Errorf("%d: %+v, not %x", i, o, build(t, want))
		}
	}
	in := build(t, api.Packet{Kind: api.Stream, Life: 2, From: 7, FromPort: 9, To: ownAddr, ToPort: ownPort})
	if o := up(x).Take(in); o.Slot != picked || o.Cookie {
		t.Errorf("without a stamp: %+v", o)
	}
	if o := up(empty(t)).Take(in); !dropped(o, api.NoBack) {
		t.Errorf("none is active: %+v", o)
	}
}

// flowOf is one whose cookie for the slot is that number.
func flowOf(t *testing.T, x api.Pool, kind, slot, c int) api.Flow {
	t.Helper()
	for n := range 30000000 {
		f := api.Flow{Addr: n, Port: 1, ToAddr: ownAddr, ToPort: ownPort}
		if cookie.Make(x.Ring, kind, f, slot) == c && wheel.Pick(wheel.Make(x), f) != slot {
			return f
		}
	}
	t.Fatalf("none has cookie %d", c)
	return api.Flow{}
}

// P904: a gram's label of 0 is no cookie, nor is what opens a flow asked for one, though 0 would be read.
func TestCookieNought(t *testing.T) {
	x := mixed(t)
	for i, c := range []struct {
		kind, flags, c int
		by             bool
	}{{api.Gram, 0, 0, false}, {api.Gram, 0, 1, true}, {api.Stream, 0, 0, true}, {api.Stream, api.Opening, 0, false}} {
		f := flowOf(t, x, c.kind, 2, c.c)
		in := api.Packet{Kind: c.kind, Life: 2, From: f.Addr, FromPort: f.Port, To: ownAddr, ToPort: ownPort, Flags: c.flags, Label: c.c, Opts: opts.Make(9, 0)}
		if o := up(x).Take(build(t, in)); o.Drop != api.OK || o.Cookie != c.by || (o.Slot == 2) != c.by {
			t.Errorf("%d: %+v", i, o)
		}
	}
}

// P904: an echo is given back as it was, but for its lowest bits.
func TestEchoBack(t *testing.T) {
	x := mixed(t)
	p := up(x)
	addr, port := backend(2)
	o := p.Take(build(t, api.Packet{Kind: api.Stream, Life: 64, From: addr, FromPort: port, To: 7, ToPort: 9, Opts: opts.Make(0xffff2345, 0)}))
	_, val, _, _ := opts.Stamp(parse(t, o.Bytes).Opts)
	p.Take(build(t, api.Packet{Kind: api.Stream, Life: 64, From: addr, FromPort: port, To: 1, ToPort: 2, Opts: opts.Make(0x00001000, 0)}))
	o = p.Take(build(t, api.Packet{Kind: api.Stream, Life: 64, From: 7, FromPort: 9, To: ownAddr, ToPort: ownPort, Opts: opts.Make(3, val)}))
	if _, own, echo, _ := opts.Stamp(parse(t, o.Bytes).Opts); o.Slot != 2 || !o.Cookie || own != 3 || echo != 0xffff2300 {
		t.Errorf("slot %d, %x %x", o.Slot, own, echo)
	}
	other := up(x).Take(build(t, api.Packet{Kind: api.Stream, Life: 64, From: 7, FromPort: 9, To: ownAddr, ToPort: ownPort, Opts: opts.Make(3, val)}))
	if _, _, echo, _ := opts.Stamp(parse(t, other.Bytes).Opts); other.Slot != 2 || !other.Cookie || echo != 0 {
		t.Errorf("of one that saw none: slot %d, %x", other.Slot, echo)
	}
}

// P905
func TestFaultIn(t *testing.T) {
	x := mixed(t)
	begin := build(t, api.Packet{Kind: api.Stream, Life: 3, From: ownAddr, FromPort: ownPort, To: 7, ToPort: 9, Data: []byte{5}})
	slot := wheel.Pick(wheel.Make(x), api.Flow{Addr: 7, Port: 9, ToAddr: ownAddr, ToPort: ownPort})
	addr, port := backend(slot)
	fault := api.Packet{Kind: api.Fault, Code: 3, Life: 9, From: 55, To: ownAddr, Data: begin}
	want := fault
	want.Life, want.To = 8, addr
	want.Data = laid(begin, 4, uint32(addr))
	want.Data[16], want.Data[17] = byte(port>>8), byte(port)
	o := up(x).Take(build(t, fault))
	if o.Drop != api.OK || o.Slot != slot || o.Cookie || !bytes.Equal(o.Bytes, build(t, want)) {
		t.Errorf("%+v", o)
	}
	spoilt := build(t, fault)
	spoilt[18] ^= 3
	if o := up(x).Take(spoilt); o.Slot != slot || wire.Whole(o.Bytes) {
		t.Errorf("what is not right is not made right: %+v", o)
	}
	for at, why := range map[int]api.Errno{0: api.Stranger, 3: api.OK, 4: api.Stranger, 7: api.Stranger, 16: api.Stranger, 17: api.Stranger, 18: api.OK, 14: api.OK, 20: api.OK} {
		other := fault
		other.Data = bytes.Clone(begin)
		other.Data[at] ^= 128
		if o := up(x).Take(build(t, other)); o.Drop != why {
			t.Errorf("byte %d: %v", at, o.Drop)
		}
	}
	for kind, why := range map[byte]api.Errno{0: api.Stranger, 1: api.OK, 2: api.OK, 3: api.Stranger} {
		other := fault
		other.Data = bytes.Clone(begin)
		other.Data[0] = kind
		if o := up(x).Take(build(t, other)); o.Drop != why {
			t.Errorf("kind %d: %v", kind, o.Drop)
		}
	}
	if o := up(empty(t)).Take(build(t, fault)); !dropped(o, api.NoBack) {
		t.Errorf("none is active: %+v", o)
	}
}

// blurred is bytes without what restored stamps' nearness says, and the sum over it.
func blurred(b []byte) []byte {
	out := bytes.Clone(b)
	if len(out) == 0 || out[0] != api.Stream {
		return out
	}
	out[22], out[23] = 0, 0
	p, _ := wire.Parse(out)
	if at, _, _, is := opts.Stamp(p.Opts); is {
		copy(out[24+at+4:], make([]byte, 4))
	}
	return out
}

// P906, T1: what a unit has seen does not matter.
func TestNoMemory(t *testing.T) {
	r := rand.New(rand.NewSource(2))
	x := mixed(t)
	seen := up(x)
	for range 6000 {
		b := somePacket(t, r, x)
		a, c := seen.Take(b), up(x).Take(b)
		if a.Drop != c.Drop || a.Slot != c.Slot || a.Cookie != c.Cookie || !bytes.Equal(blurred(a.Bytes), blurred(c.Bytes)) {
			t.Fatalf("Take(%x): %+v, %+v", b, a, c)
		}
	}
}

// P906, T2: by its cookie a flow goes to its slot, while that takes, one epoch on and one back.
func TestWhereItWent(t *testing.T) {
	r := rand.New(rand.NewSource(3))
	x := mixed(t)
	on := apply(t, x, rotate(6))
	for range 3000 {
		kind, slot := 1+r.Intn(2), []int{0, 1, 2, 3, 63}[r.Intn(5)]
		client, clientPort := 5+r.Intn(1<<20), r.Intn(65536)
		made, used := []api.Pool{x, on}[r.Intn(2)], []api.Pool{x, on}[r.Intn(2)]
		addr, port := backend(slot)
		out := up(made).Take(build(t, api.Packet{Kind: kind, Life: 64, From: addr, FromPort: port, To: client, ToPort: clientPort, Opts: stamped(r.Uint32(), r.Uint32())}))
		answer := parse(t, out.Bytes)
		back := api.Packet{Kind: kind, Life: 64, From: client, FromPort: clientPort, To: ownAddr, ToPort: ownPort, Label: answer.Label}
		if _, val, _, is := opts.Stamp(answer.Opts); is {
			back.Opts = stamped(r.Uint32(), val)
		}
		if kind == api.Gram && back.Label == 0 {
			continue
		}
		if o := up(used).Take(build(t, back)); o.Slot != slot || !o.Cookie {
			t.Fatalf("from slot %d, in %d, of %d: %+v", slot, used.Ring.Epoch, made.Ring.Epoch, o)
		}
	}
}

// P1
func TestAnyBytes(t *testing.T) {
	r := rand.New(rand.NewSource(4))
	var odd api.Pool
	for i := range odd.Slots {
		odd.Slots[i] = api.Slot{State: r.Intn(5), Addr: r.Intn(3) - 1<<40, Port: -i, Weight: r.Intn(9)}
	}
	odd.Addr, odd.Port = ownAddr, ownPort
	x := mixed(t)
	p, q := up(x), up(odd)
	for range 20000 {
		b := somePacket(t, r, x)
		if r.Intn(2) == 0 {
			b = b[:r.Intn(len(b)+1)]
		}
		p.Take(b)
		q.Take(b)
	}
	for _, slot := range []int{-1, 64, -1 << 63, 1<<63 - 1} {
		if n, is := p.Near(slot); is || n != 0 {
			t.Errorf("Near of %d", slot)
		}
	}
}
