package cookie

import (
	"math/rand"
	"testing"

	"roundhouse/api"
	"roundhouse/opts"
	"roundhouse/sip"
)

func someKey(r *rand.Rand) api.Key { return api.Key{A: r.Uint64(), B: r.Uint64()} }

func someRing(r *rand.Rand) api.Ring {
	epoch := []int{0, 1, 2, 3, 1 << 40, r.Intn(1 << 40)}[r.Intn(6)]
	return Ring(epoch, someKey(r), someKey(r), someKey(r))
}

func someFlow(r *rand.Rand) api.Flow {
	return api.Flow{Addr: r.Intn(1 << 32), Port: r.Intn(65536), ToAddr: r.Intn(1 << 32), ToPort: r.Intn(65536)}
}

func tagBits(kind int) int { return map[int]int{api.Stream: 12, api.Gram: 8}[kind] }

// plain is a cookie, told once more, by that key, of that epoch.
func plain(k api.Key, epoch, kind int, f api.Flow, slot int) int {
	e := epoch % 4
	m := int(sip.Words(k, kind, f.Addr, f.Port, f.ToAddr, f.ToPort, 64, e) % 64)
	t := 1 << tagBits(kind)
	tag := int(sip.Words(k, kind, f.Addr, f.Port, f.ToAddr, f.ToPort, slot, e) % uint64(t))
	return (e*64+(slot^m))*t + tag
}

// P501
func TestRingNext(t *testing.T) {
	a, b, c, d := api.Key{A: 1}, api.Key{B: 2}, api.Key{A: 3, B: 3}, api.Key{A: 4}
	for i, x := range []struct{ got, want api.Ring }{
		{Ring(7), api.Ring{Epoch: 7}},
		{Ring(0, a), api.Ring{Prev: a}},
		{Ring(1, a, b), api.Ring{Epoch: 1, Prev: a, Cur: b}},
		{Ring(1<<40, a, b, c), api.Ring{Epoch: 1 << 40, Prev: a, Cur: b, Next: c}},
		{Ring(2, a, b, c, d, d), api.Ring{Epoch: 2, Prev: a, Cur: b, Next: c}},
		{Next(Ring(2, a, b, c), d), api.Ring{Epoch: 3, Prev: b, Cur: c, Next: d}},
		{Next(api.Ring{}, api.Key{}), api.Ring{Epoch: 1}},
	} {
		if x.got != x.want {
			t.Errorf("%d: %+v", i, x.got)
		}
	}
}

// P501
func TestKey(t *testing.T) {
	p, c, n := api.Key{A: 1}, api.Key{A: 2}, api.Key{A: 3}
	for e := range 9 {
		for epoch := -9; epoch < 20; epoch++ {
			k, is := Key(Ring(e, p, c, n), epoch)
			want, has := api.Key{}, true
			switch ((epoch-e)%4 + 4) % 4 {
			case 0:
				want = c
			case 1:
				want = n
			case 3:
				want = p
			default:
				has = false
			}
			if k != want || is != has {
				t.Fatalf("epoch %d at %d: %v %v", epoch, e, k, is)
			}
		}
	}
	for epoch, want := range map[int]api.Key{-1 << 63: c, 1<<63 - 1: p, -1: p, 1: n} {
		if k, is := Key(Ring(0, p, c, n), epoch); k != want || !is {
			t.Errorf("epoch %d: %v %v", epoch, k, is)
		}
	}
}

// P502
func TestMakeRead(t *testing.T) {
	r := rand.New(rand.NewSource(1))
	for range 6000 {
		g, f, kind, slot := someRing(r), someFlow(r), 1+r.Intn(2), r.Intn(64)
		c := Make(g, kind, f, slot)
		if want := plain(g.Cur, g.Epoch, kind, f, slot); c != want {
			t.Fatalf("Make: %x, not %x", c, want)
		}
		if got, is := Read(g, kind, f, c); got != slot || !is {
			t.Fatalf("Read of Make: %d %v, not %d", got, is, slot)
		}
	}
}

// P504, T2
func TestReadOtherEpochs(t *testing.T) {
	r := rand.New(rand.NewSource(2))
	for range 2000 {
		g, f, kind, slot := someRing(r), someFlow(r), 1+r.Intn(2), r.Intn(64)
		c := Make(g, kind, f, slot)
		on := Next(g, someKey(r))
		if got, is := Read(on, kind, f, c); got != slot || !is {
			t.Fatalf("one epoch on: %d %v", got, is)
		}
		ahead := Make(on, kind, f, slot)
		if got, is := Read(g, kind, f, ahead); got != slot || !is {
			t.Fatalf("in the one ahead: %d %v", got, is)
		}
		if got, is := Read(Next(on, someKey(r)), kind, f, c); is || got != 0 {
			t.Fatalf("two epochs on: %d %v", got, is)
		}
	}
}

// P502: each number is read as the one slot for which Make tells it, by each epoch's key, or as none.
func TestReadAny(t *testing.T) {
	r := rand.New(rand.NewSource(3))
	for range 3 {
		g, f := someRing(r), someFlow(r)
		g.Epoch++
		for kind := api.Stream; kind <= api.Gram; kind++ {
			want := map[int]int{}
			for i, k := range []api.Key{g.Prev, g.Cur, g.Next} {
				for slot := range 64 {
					want[plain(k, g.Epoch-1+i, kind, f, slot)] = slot
				}
			}
			for c := range 1 << (8 + tagBits(kind)) {
				slot, is := Read(g, kind, f, c)
				if s, has := want[c]; is != has || slot != s {
					t.Fatalf("Read of %x: %d %v, not %d %v", c, slot, is, s, has)
				}
			}
		}
	}
}

// P502, T3: what was made for another kind, flow, or by another key, has another tag, almost always.
func TestReadOthers(t *testing.T) {
	r := rand.New(rand.NewSource(4))
	wrong := 0
	for range 4000 {
		g, f := someRing(r), someFlow(r)
		c := Make(g, api.Stream, f, r.Intn(64))
		other := f
		switch r.Intn(4) {
		case 0:
			other.Addr ^= 1
		case 1:
			other.Port ^= 1
		case 2:
			other.ToAddr ^= 1
		case 3:
			other.ToPort ^= 1
		}
		if _, is := Read(g, api.Stream, other, c); is {
			wrong++
		}
		strange := Ring(g.Epoch, someKey(r), someKey(r), someKey(r))
		if _, is := Read(strange, api.Stream, f, c); is {
			wrong++
		}
	}
	if wrong > 20 {
		t.Errorf("%d of 8000 strange cookies are read", wrong)
	}
}

// P502
func TestReadOutOfBounds(t *testing.T) {
	r := rand.New(rand.NewSource(5))
	g, f := someRing(r), someFlow(r)
	for kind, size := range map[int]int{api.Stream: 1 << 20, api.Gram: 1 << 16} {
		c := Make(g, kind, f, 5)
		for _, x := range []int{-1, c - size, c + size, c + 4*size, size, -1 << 63, 1<<63 - 1} {
			if slot, is := Read(g, kind, f, x); is || slot != 0 {
				t.Errorf("%d of kind %d: %d %v", x, kind, slot, is)
			}
		}
	}
}

// P502: 0 may be a cookie, too; the first number beyond all is none, though it looks like 0.
func TestReadNought(t *testing.T) {
	r := rand.New(rand.NewSource(8))
	for range 1000000 {
		g, f := Ring(4, api.Key{}, someKey(r)), someFlow(r)
		if Make(g, api.Gram, f, 9) != 0 {
			continue
		}
		if slot, is := Read(g, api.Gram, f, 0); slot != 9 || !is {
			t.Errorf("%d %v", slot, is)
		}
		if slot, is := Read(g, api.Gram, f, 1<<16); slot != 0 || is {
			t.Errorf("%d %v", slot, is)
		}
		return
	}
	t.Error("none is 0")
}

// P503
func TestPutGet(t *testing.T) {
	for _, x := range []struct {
		val uint32
		c   int
		put uint32
	}{{0, 0, 0}, {255, 0, 0}, {256, 0, 1 << 20}, {0x000fffff, 5, 0xfff00005}, {0xfff00000, 1<<20 - 1, 0x000fffff}, {0x12345678, 0xabcde, 0x456abcde}, {1<<32 - 1, 1<<20 - 1, 1<<32 - 1}} {
		if got := Put(x.val, x.c); got != x.put {
			t.Errorf("Put(%x, %x): %x", x.val, x.c, got)
		}
		coarse, c := Get(x.put)
		if c != x.c || coarse != int(x.val/256%4096) {
			t.Errorf("Get(%x): %x %x", x.put, coarse, c)
		}
	}
	if coarse, c := Get(0); coarse != 0 || c != 0 {
		t.Error("example")
	}
}

// P503
func TestBack(t *testing.T) {
	r := rand.New(rand.NewSource(6))
	for range 20000 {
		val, near := r.Uint32(), r.Uint32()
		if r.Intn(3) == 0 {
			near = near&0xff | []uint32{0, 1 << 19, 1<<19 - 256, 1 << 20, 1<<32 - 256}[r.Intn(5)]
			val &= 0x00ffffff
		}
		v := Back(val, near)
		coarse, _ := Get(val)
		far := opts.Far(near-near%256, v)
		if v%256 != 0 || int(v>>8%4096) != coarse || far < -1<<19 || far > 1<<19-1 {
			t.Fatalf("Back(%x, %x): %x", val, near, v)
		}
	}
	for _, x := range [][3]uint32{{0, 0, 0}, {0x80000000, 0, 0xfff80000}, {0x7ff00000, 0, 0x0007ff00}, {0, 1<<32 - 1, 0}, {0xfff00000, 0, 0xffffff00}} {
		if got := Back(x[0], x[1]); got != x[2] {
			t.Errorf("Back(%x, %x): %x", x[0], x[1], got)
		}
	}
}

// P503: what Put takes Back gives back near enough, but for the lowest bits.
func TestBackOfPut(t *testing.T) {
	r := rand.New(rand.NewSource(7))
	for range 5000 {
		val := r.Uint32()
		near := val + uint32(r.Intn(1<<20-1024)-1<<19+512)
		if got := Back(Put(val, r.Intn(1<<20)), near); got != val-val%256 {
			t.Fatalf("%x near %x: %x", val, near, got)
		}
	}
}

// P1, P8
func TestWrongNumbers(t *testing.T) {
	for _, n := range []int{-1, 64, 1 << 41, -1 << 63, 1<<63 - 1} {
		g := Ring(n)
		Next(g, api.Key{})
		Key(g, n)
		for kind := range 5 {
			Make(g, kind, api.Flow{Addr: n, Port: n}, n)
			Read(g, kind, api.Flow{ToAddr: n, ToPort: n}, n)
		}
		Make(g, n, api.Flow{}, n)
		Put(0, n)
	}
}
