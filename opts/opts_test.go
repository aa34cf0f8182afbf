package opts

import (
	"bytes"
	"math/rand"
	"slices"
	"testing"

	"roundhouse/api"
)

// P401
func TestWalk(t *testing.T) {
	for i, x := range []struct {
		b    []byte
		want []Opt
		no   api.Errno
	}{
		{nil, nil, api.OK},
		{[]byte{0}, []Opt{{0, 0, 1}}, api.OK},
		{[]byte{0, 9, 0}, []Opt{{0, 0, 1}}, api.OK},
		{[]byte{1, 1}, []Opt{{1, 0, 1}, {1, 1, 1}}, api.OK},
		{[]byte{1, 0, 2}, []Opt{{1, 0, 1}, {0, 1, 1}}, api.OK},
		{[]byte{2, 2, 3, 3, 0}, []Opt{{2, 0, 2}, {3, 2, 3}}, api.OK},
		{[]byte{2, 2, 3, 3, 7, 0, 5}, []Opt{{2, 0, 2}, {3, 2, 3}, {0, 5, 1}}, api.OK},
		{[]byte{255, 3, 0}, []Opt{{255, 0, 3}}, api.OK},
		{[]byte{2}, nil, api.BadOpt},
		{[]byte{1, 8}, nil, api.BadOpt},
		{[]byte{2, 0}, nil, api.BadOpt},
		{[]byte{2, 1}, nil, api.BadOpt},
		{[]byte{1, 2, 3}, nil, api.BadOpt},
		{[]byte{2, 4, 0}, nil, api.BadOpt},
		{[]byte{2, 255, 0}, nil, api.BadOpt},
	} {
		l, no := Walk(x.b)
		if no != x.no || !slices.Equal(l, x.want) {
			t.Errorf("%d: %v: %v %v", i, x.b, l, no)
		}
	}
	l, no := Walk(bytes.Repeat([]byte{1}, 100000))
	if no != api.OK || len(l) != 100000 || l[99999] != (Opt{1, 99999, 1}) {
		t.Error("a long one")
	}
}

// walked tells options back to front: of each place what follows it.
func walked(b []byte) ([]Opt, bool) {
	l := make([][]Opt, len(b)+1)
	good := make([]bool, len(b)+1)
	good[len(b)] = true
	for at := len(b) - 1; at >= 0; at-- {
		long := 1
		if b[at] == 0 {
			good[at], l[at] = true, []Opt{{0, at, 1}}
			continue
		}
		if b[at] != 1 {
			if at+1 == len(b) || b[at+1] < 2 {
				continue
			}
			long = int(b[at+1])
		}
		if at+long <= len(b) && good[at+long] {
			good[at], l[at] = true, append([]Opt{{int(b[at]), at, long}}, l[at+long]...)
		}
	}
	return l[0], good[0]
}

// P401
func TestWalkAndStampAny(t *testing.T) {
	r := rand.New(rand.NewSource(1))
	stamps, bad := 0, 0
	for range 30000 {
		var b []byte
		for range r.Intn(5) {
			switch r.Intn(5) {
			case 0:
				b = append(b, Make(r.Uint32(), r.Uint32())...)
			case 1:
				b = append(b, 8, byte(r.Intn(13)))
			default:
				b = append(b, byte(r.Intn(10)), byte(r.Intn(6)))
			}
		}
		before := string(b)
		l, no := Walk(b)
		want, good := walked(b)
		if (no == api.OK) != good || !slices.Equal(l, want) || !good && no != api.BadOpt {
			t.Fatalf("%v: %v %v, not %v", b, l, no, want)
		}
		at, val, echo, is := Stamp(b)
		i := slices.IndexFunc(want, func(o Opt) bool { return o.Kind == 8 && o.Len == 10 })
		switch {
		case i < 0:
			if is || at != 0 || val != 0 || echo != 0 {
				t.Fatalf("Stamp of %v: %d %d %d %v", b, at, val, echo, is)
			}
			bad++
		default:
			x := b[want[i].At:]
			v := uint32(x[2])*1<<24 + uint32(x[3])*1<<16 + uint32(x[4])*1<<8 + uint32(x[5])
			e := uint32(x[6])*1<<24 + uint32(x[7])*1<<16 + uint32(x[8])*1<<8 + uint32(x[9])
			if !is || at != want[i].At+2 || val != v || echo != e {
				t.Fatalf("Stamp of %v: %d %d %d %v", b, at, val, echo, is)
			}
			stamps++
		}
		if string(b) != before {
			t.Fatal("what was handed in has changed")
		}
	}
	if stamps < 1000 || bad < 1000 {
		t.Errorf("%d stamps, %d others", stamps, bad)
	}
}

// P401
func TestStamp(t *testing.T) {
	stamp := []byte{8, 10, 1, 2, 3, 4, 250, 6, 7, 8}
	for i, x := range []struct {
		b  []byte
		at int
	}{
		{nil, -1}, {stamp, 2}, {append([]byte{1, 1}, stamp...), 4}, {append([]byte{8, 3, 0}, stamp...), 5},
		{append([]byte{8, 11, 0, 0, 0, 0, 0, 0, 0, 0, 0}, stamp...), 13}, {append([]byte{9, 10, 0, 0, 0, 0, 0, 0, 0, 0}, stamp...), 12},
		{append([]byte{0}, stamp...), -1}, {append(bytes.Clone(stamp), 5), -1}, {append(bytes.Clone(stamp), 0, 5), 2}, {append(append([]byte{}, stamp...), stamp...), 2},
		{stamp[:9], -1}, {[]byte{8, 2}, -1},
	} {
		at, val, echo, is := Stamp(x.b)
		if x.at < 0 {
			if is || at != 0 || val != 0 || echo != 0 {
				t.Errorf("%d: %d %d %d %v", i, at, val, echo, is)
			}
		} else if !is || at != x.at || val != 0x01020304 || echo != 0xfa060708 {
			t.Errorf("%d: %d %x %x %v", i, at, val, echo, is)
		}
	}
}

// P401
func TestMake(t *testing.T) {
	b := Make(0x01020304, 0xfffefdfc)
	if !bytes.Equal(b, []byte{1, 1, 8, 10, 1, 2, 3, 4, 255, 254, 253, 252}) {
		t.Errorf("%v", b)
	}
	if at, val, echo, is := Stamp(b); at != 4 || val != 0x01020304 || echo != 0xfffefdfc || !is {
		t.Error("Stamp of Make")
	}
}

// P402
func TestFarLess(t *testing.T) {
	for _, x := range []struct {
		a, b uint32
		far  int
	}{
		{0, 0, 0}, {0, 1, 1}, {1, 0, -1}, {1<<32 - 1, 0, 1}, {0, 1<<32 - 1, -1}, {0, 1<<31 - 1, 1<<31 - 1}, {0, 1 << 31, -1 << 31}, {1 << 31, 0, -1 << 31}, {1<<31 + 1, 0, 1<<31 - 1}, {5, 5, 0},
		{1<<32 - 5, 7, 12},
	} {
		if Far(x.a, x.b) != x.far || Less(x.a, x.b) != (x.far > 0) {
			t.Errorf("%d, %d: %d %v", x.a, x.b, Far(x.a, x.b), Less(x.a, x.b))
		}
	}
}
