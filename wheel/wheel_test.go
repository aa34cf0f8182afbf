package wheel

import (
	"math/rand"
	"slices"
	"testing"

	"roundhouse/api"
	"roundhouse/pool"
	"roundhouse/sip"
)

func fresh(t *testing.T) api.Pool {
	t.Helper()
	p, no := pool.New(10, 80, api.Key{A: 1}, api.Key{A: 2})
	if no != api.OK {
		t.Fatal(no)
	}
	return p
}

// stand binds and opens a backend.
func stand(t *testing.T, p api.Pool, slot, addr, weight int) api.Pool {
	t.Helper()
	p, _, no := pool.All(p, api.Entry{Kind: api.EBind, Slot: slot, Addr: addr, Port: 7, Weight: weight}, api.Entry{Kind: api.EOpen, Slot: slot})
	if no != api.OK {
		t.Fatal(no)
	}
	return p
}

// plain is the wheel, told once more: each slot's whole order is written out, and what is taken is struck out of all.
func plain(p api.Pool) []int {
	w := slices.Repeat([]int{-1}, 127)
	orders := map[int][]int{}
	var draws []int
	for i, s := range p.Slots {
		if s.State != api.Active {
			continue
		}
		first := int(sip.Words(api.Key{}, 1, s.Addr, s.Port) % 127)
		step := int(sip.Words(api.Key{}, 2, s.Addr, s.Port)%126) + 1
		for n := range 127 {
			orders[i] = append(orders[i], (first+n*step)%127)
		}
		for range s.Weight {
			draws = append(draws, i)
		}
	}
	for n := 0; len(draws) > 0 && n < 127; n++ {
		slot := draws[n%len(draws)]
		at := orders[slot][0]
		w[at] = slot
		for i, l := range orders {
			orders[i] = slices.DeleteFunc(l, func(x int) bool { return x == at })
		}
	}
	return w
}

// P701
func TestMakeNone(t *testing.T) {
	p := fresh(t)
	empty := slices.Repeat([]int{-1}, 127)
	if w := Make(p); !slices.Equal(w, empty) {
		t.Errorf("%v", w)
	}
	p = stand(t, p, 3, 1, 1)
	p = stand(t, p, 4, 2, 1)
	p, _, no := pool.All(p, api.Entry{Kind: api.EDrain, Slot: 3}, api.Entry{Kind: api.EDrain, Slot: 4}, api.Entry{Kind: api.EShut, Slot: 4}, api.Entry{Kind: api.EBind, Slot: 5, Addr: 9, Weight: 8})
	if no != api.OK {
		t.Fatal(no)
	}
	if w := Make(p); !slices.Equal(w, empty) {
		t.Errorf("of what is not active: %v", w)
	}
}

// P701
func TestMakeOne(t *testing.T) {
	for slot := range 64 {
		if w := Make(stand(t, fresh(t), slot, 1, 1+slot%8)); !slices.Equal(w, slices.Repeat([]int{slot}, 127)) {
			t.Errorf("%v", w)
		}
	}
}

// P701
func TestMakeAny(t *testing.T) {
	r := rand.New(rand.NewSource(1))
	for n := range 400 {
		p := fresh(t)
		for _, slot := range r.Perm(64)[:n%65] {
			p = stand(t, p, slot, 100+r.Intn(1000)*64+slot, 1+r.Intn(8))
			if r.Intn(5) == 0 {
				p, _ = pool.Apply(p, api.Entry{Kind: api.EDrain, Slot: slot})
			}
		}
		w := Make(p)
		if want := plain(p); !slices.Equal(w, want) {
			t.Fatalf("%v, not %v", w, want)
		}
		total := Share(w, -1)
		for slot := range 64 {
			share := Share(w, slot)
			if share > 0 && p.Slots[slot].State != api.Active {
				t.Fatalf("slot %d has places", slot)
			}
			total += share
		}
		if total != 127 {
			t.Fatalf("%d places", total)
		}
	}
}

// P701: shares go by weight, as far as whole rounds go.
func TestShares(t *testing.T) {
	p := stand(t, stand(t, stand(t, fresh(t), 0, 1, 1), 1, 2, 2), 2, 3, 8)
	w := Make(p)
	for slot, want := range []int{12, 24, 91} { // 11 rounds of 11, then 0, 1, 1, 2, 2, 2
		if got := Share(w, slot); got != want {
			t.Errorf("slot %d: %d", slot, got)
		}
	}
}

// P701
func TestPick(t *testing.T) {
	r := rand.New(rand.NewSource(2))
	w := r.Perm(127)
	for range 2000 {
		f := api.Flow{Addr: r.Intn(1 << 32), Port: r.Intn(65536), ToAddr: r.Intn(1 << 32), ToPort: r.Intn(65536)}
		want := w[sip.Words(api.Key{}, 3, f.Addr, f.Port, f.ToAddr, f.ToPort)%127]
		if got := Pick(w, f); got != want {
			t.Fatalf("%+v: %d, not %d", f, got, want)
		}
	}
	if Pick(Make(fresh(t)), api.Flow{}) != -1 {
		t.Error("of an empty wheel")
	}
}

// P701
func TestShare(t *testing.T) {
	for _, x := range []struct {
		w          []int
		slot, want int
	}{{nil, 0, 0}, {[]int{1, 2, 1}, 1, 2}, {[]int{1, 2, 1}, 3, 0}, {[]int{-1, -1}, -1, 2}, {[]int{900}, 900, 1}} {
		if got := Share(x.w, x.slot); got != x.want {
			t.Errorf("%v of %d: %d", x.w, x.slot, got)
		}
	}
}

// P1, P8
func TestWrong(t *testing.T) {
	for _, w := range [][]int{nil, {1}, make([]int, 126), make([]int, 128)} {
		Pick(w, api.Flow{Addr: -1})
	}
	for _, weight := range []int{0, -5, 1 << 62} {
		var p api.Pool
		p.Slots[9] = api.Slot{State: api.Active, Weight: weight, Addr: -7, Port: 1 << 50}
		if len(Make(p)) != 127 {
			t.Error("no wheel")
		}
	}
}
