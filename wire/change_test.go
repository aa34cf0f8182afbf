package wire

import (
	"bytes"
	"encoding/binary"
	"math/rand"
	"testing"

	"roundhouse/api"
	"roundhouse/sum"
)

// spoiled is b, often with a body that is not right, or with a sum at an edge.
func spoiled(r *rand.Rand, b []byte) []byte {
	at := 22
	if b[0] == api.Fault {
		at = 18
	}
	switch r.Intn(5) {
	case 0:
		binary.BigEndian.PutUint16(b[at:], uint16(r.Intn(65536)))
	case 1:
		b[at], b[at+1] = 255, 255
	case 2:
		b[at], b[at+1] = 0, 0
	}
	if r.Intn(6) == 0 && binary.BigEndian.Uint16(b[14:]) == 0 {
		b[14], b[15] = 255, 255
	}
	return b
}

// padded is b with a 0 behind, if it is odd, so that all its pairs are there.
func padded(b []byte) []byte {
	return append(bytes.Clone(b), make([]byte, len(b)%2)...)
}

// turned is out with the sum at at turned by the pairs, in that order.
func turned(out, b []byte, at int, pairs ...int) {
	was, is := padded(b), padded(out)
	s := int(binary.BigEndian.Uint16(b[at:]))
	for _, i := range pairs {
		s = sum.Turn(s, int(binary.BigEndian.Uint16(was[i:])), int(binary.BigEndian.Uint16(is[i:])))
	}
	if out[0] == api.Gram && at == 22 && s == 0 {
		s = 65535
	}
	binary.BigEndian.PutUint16(out[at:], uint16(s))
}

func bare(b []byte) bool { return b[0] == api.Gram && b[22] == 0 && b[23] == 0 }

func bodySum(b []byte) int {
	if b[0] == api.Fault {
		return 18
	}
	return 22
}

// keeps checks P304 of a change from b to out.
func keeps(t *testing.T, what string, b, out []byte) {
	t.Helper()
	if _, no := Parse(out); no == api.OK && Whole(b) != Whole(out) {
		t.Fatalf("%s: %x whole %v, %x whole %v", what, b, Whole(b), out, Whole(out))
	}
	if len(b) != len(out) || bare(b) != bare(out) {
		t.Fatalf("%s: %x became %x", what, b, out)
	}
}

// P303, P304
func TestWrite(t *testing.T) {
	r := rand.New(rand.NewSource(3))
	written := 0
	for range 12000 {
		b := spoiled(r, lay(some(r)))
		n := []int{1, 2, 4}[r.Intn(3)]
		at := 14 + r.Intn(len(b)-12)
		v := []int{0, 1<<(8*n) - 1, r.Intn(1 << (8 * n))}[r.Intn(3)]
		s := bodySum(b)
		before := string(b)
		out, no := Write(b, at, n, v)
		if string(b) != before {
			t.Fatal("what was handed in has changed")
		}
		if at < 16 || at+n > len(b) || at < s+2 && at+n > s {
			if no != api.Range || out != nil {
				t.Fatalf("Write at %d of %d, %d: %v", at, len(b), n, no)
			}
			continue
		}
		want := bytes.Clone(b)
		var pairs []int
		for i := range n {
			want[at+i] = byte(v >> (8 * (n - 1 - i)))
			if p := (at + i) / 2 * 2; i == 0 || p != pairs[len(pairs)-1] {
				pairs = append(pairs, p)
			}
		}
		if !bare(b) {
			turned(want, b, s, pairs...)
		}
		if no != api.OK || !bytes.Equal(out, want) {
			t.Fatalf("Write(%x, %d, %d, %d): %x %v, not %x", b, at, n, v, out, no, want)
		}
		keeps(t, "Write", b, out)
		written++
	}
	if written < 5000 {
		t.Error("too few were written")
	}
}

// P303
func TestWriteRange(t *testing.T) {
	b := lay(api.Packet{Kind: api.Stream, Life: 9, Data: make([]byte, 9)})
	for _, x := range [][4]int{
		{24, 0, 0, 1}, {24, 3, 0, 1}, {24, 8, 0, 1}, {24, -1, 0, 1}, {24, 1 << 62, 0, 1},
		{24, 1, -1, 1}, {24, 1, 255, 0}, {24, 1, 256, 1}, {24, 2, 65535, 0}, {24, 2, 65536, 1}, {24, 4, 1<<32 - 1, 0}, {24, 4, 1 << 32, 1},
		{15, 1, 0, 1}, {16, 1, 0, 0}, {0, 1, 0, 1}, {-1, 4, 0, 1}, {-1 << 63, 4, 0, 1}, {1<<63 - 1, 4, 0, 1}, {1<<63 - 2, 1, 0, 1},
		{32, 1, 0, 0}, {33, 1, 0, 1}, {32, 2, 0, 1}, {31, 2, 0, 0}, {29, 4, 0, 0}, {30, 4, 0, 1},
		{22, 1, 0, 1}, {23, 1, 0, 1}, {21, 2, 0, 1}, {20, 2, 0, 0}, {18, 4, 0, 0}, {19, 4, 0, 1}, {24, 2, 0, 0}, {23, 2, 0, 1},
	} {
		out, no := Write(b, x[0], x[1], x[2])
		if (no == api.Range) != (x[3] == 1) || (no == api.OK) != (x[3] == 0) || no != api.OK && out != nil {
			t.Errorf("%v: %v", x, no)
		}
	}
	fault := lay(api.Packet{Kind: api.Fault, Data: make([]byte, 24)})
	for at, want := range map[int]api.Errno{16: api.OK, 17: api.Range, 18: api.Range, 19: api.Range, 20: api.OK, 22: api.OK} {
		if _, no := Write(fault, at, 2, 0); no != want {
			t.Errorf("at %d of a fault: %v", at, no)
		}
	}
}

// P303, P304
func TestAge(t *testing.T) {
	r := rand.New(rand.NewSource(4))
	for range 4000 {
		b := spoiled(r, lay(some(r)))
		before := string(b)
		out, no := Age(b)
		if string(b) != before {
			t.Fatal("what was handed in has changed")
		}
		if b[1] < 2 {
			if no != api.Expired || out != nil {
				t.Fatalf("of life %d: %v", b[1], no)
			}
			continue
		}
		want := bytes.Clone(b)
		want[1]--
		turned(want, b, 14, 0)
		if no != api.OK || !bytes.Equal(out, want) {
			t.Fatalf("Age(%x): %x %v", b, out, no)
		}
		if _, no := Parse(out); no != api.OK {
			t.Fatal(no)
		}
		keeps(t, "Age", b, out)
	}
}

// P303, P304
func TestNat(t *testing.T) {
	r := rand.New(rand.NewSource(5))
	for range 6000 {
		b := spoiled(r, lay(some(r)))
		source, a, p := r.Intn(2) == 0, addr(r), port(r)
		before := string(b)
		out, no := Nat(b, source, a, p)
		if string(b) != before {
			t.Fatal("what was handed in has changed")
		}
		if b[0] == api.Fault {
			if no != api.BadKind || out != nil {
				t.Fatalf("of a fault: %v", no)
			}
			continue
		}
		want := bytes.Clone(b)
		addrAt, portAt := 8, 18
		if source {
			addrAt, portAt = 4, 16
		}
		binary.BigEndian.PutUint32(want[addrAt:], uint32(a))
		binary.BigEndian.PutUint16(want[portAt:], uint16(p))
		turned(want, b, 14, addrAt, addrAt+2)
		if !bare(b) {
			turned(want, b, 22, addrAt, addrAt+2, portAt)
		}
		if no != api.OK || !bytes.Equal(out, want) {
			t.Fatalf("Nat(%x, %v, %d, %d): %x %v, not %x", b, source, a, p, out, no, want)
		}
		if _, no := Parse(out); no != api.OK {
			t.Fatal(no)
		}
		keeps(t, "Nat", b, out)
	}
}

// P303
func TestNatErrors(t *testing.T) {
	b := lay(api.Packet{Kind: api.Gram})
	for _, x := range [][3]int{{-1, 0, 1}, {1 << 32, 0, 1}, {1<<32 - 1, 65535, 0}, {0, -1, 1}, {0, 65536, 1}, {0, 0, 0}} {
		out, no := Nat(b, false, x[0], x[1])
		if (no == api.Range) != (x[2] == 1) || no != api.OK && out != nil {
			t.Errorf("%v: %v", x, no)
		}
	}
	fault := lay(api.Packet{Kind: api.Fault, Data: make([]byte, 24)})
	if _, no := Nat(fault, true, -1, -1); no != api.BadKind {
		t.Error("a fault comes ahead of numbers")
	}
}

// P2: what is answered shares nothing with what was handed in, nor one list with another.
func TestNothingShared(t *testing.T) {
	b := lay(api.Packet{Kind: api.Stream, Life: 9, Opts: []byte{1, 1, 1, 1}, Data: []byte{5, 6, 7, 8}})
	room := append(make([]byte, 0, 100), b...)
	spare := room[:100]
	p, _ := Parse(room)
	_ = append(p.Opts, 77, 77, 77)
	if !bytes.Equal(p.Data, []byte{5, 6, 7, 8}) {
		t.Error("the lists of a packet share memory")
	}
	p.Opts[0], p.Data[0] = 99, 99
	aged, _ := Age(room)
	written, _ := Write(room, 24, 1, 9)
	moved, _ := Nat(room, true, 1, 1)
	Whole(room)
	for _, l := range [][]byte{aged, written, moved} {
		for i := range l {
			l[i] = 99
		}
	}
	if !bytes.Equal(room, b) || !bytes.Equal(spare[len(b):], make([]byte, 100-len(b))) {
		t.Error("what was handed in has changed")
	}
}

// P1
func TestAnyBytes(t *testing.T) {
	r := rand.New(rand.NewSource(6))
	for range 20000 {
		b := list(r, r.Intn(60))
		if len(b) >= 16 && r.Intn(2) == 0 {
			b[0], b[2], b[3], b[13] = byte(r.Intn(5)), 0, byte(len(b)), 0
			fix(b)
		}
		Parse(b)
		Whole(b)
		Age(b)
		Nat(b, r.Intn(2) == 0, addr(r), port(r))
		Write(b, r.Intn(70)-3, r.Intn(6), r.Intn(300)-3)
	}
}
