package pulse

import (
	"math/rand"
	"testing"

	"roundhouse/api"
)

func made(t *testing.T, rise, fall, every int) *Pulse {
	t.Helper()
	p, no := New(rise, fall, every)
	if no != api.OK || p == nil {
		t.Fatal(no)
	}
	return p
}

// P801
func TestNew(t *testing.T) {
	for _, x := range [][4]int{
		{1, 1, 1, 0}, {10, 10, 1000, 0},
		{0, 1, 1, 1}, {11, 1, 1, 1}, {1, 0, 1, 1}, {1, 11, 1, 1}, {1, 1, 0, 1}, {1, 1, 1001, 1}, {-1, 1, 1, 1}, {1, -1, 1, 1}, {1, 1, -1, 1}, {0, 0, 0, 1},
	} {
		p, no := New(x[0], x[1], x[2])
		if (no == api.Range) != (x[3] == 1) || (no == api.OK) != (x[3] == 0) || (p == nil) != (x[3] == 1) {
			t.Errorf("%v: %v", x, no)
		}
	}
	p := made(t, 1, 1, 1)
	for slot := -1; slot < 66; slot++ {
		if p.Up(slot) || p.Drop(slot) || p.Due(slot, 0) != (slot >= 0 && slot < 64) {
			t.Errorf("slot %d is known", slot)
		}
	}
}

// P801
func TestVerdicts(t *testing.T) {
	const S, U, D = api.Same, api.Up, api.Down
	for _, x := range []struct {
		rise, fall int
		told       []int
		want       []int
	}{
		{1, 1, []int{1, 1, 0, 0, 1, 0}, []int{U, S, D, S, U, D}},
		{2, 3, []int{1, 0, 1, 1, 1, 0, 0, 1, 0, 0, 0, 0, 0}, []int{S, S, S, U, S, S, S, S, S, S, D, S, S}},
		{3, 2, []int{0, 0, 0, 1, 1, 0, 1, 1, 1, 0, 1, 0, 0, 1, 1, 1}, []int{S, S, S, S, S, S, S, S, U, S, S, S, D, S, S, U}},
	} {
		p := made(t, x.rise, x.fall, 1)
		up := false
		for i, ok := range x.told {
			got := p.Told(63, i, ok == 1)
			if got != x.want[i] {
				t.Errorf("%d, %d: at %d: %d, not %d", x.rise, x.fall, i, got, x.want[i])
			}
			if got != S {
				up = got == U
			}
			if p.Up(63) != up || p.Up(62) {
				t.Errorf("at %d: up is %v", i, p.Up(63))
			}
		}
	}
}

// P801
func TestDue(t *testing.T) {
	p := made(t, 2, 2, 5)
	if !p.Due(0, 0) || !p.Due(0, 1<<40) || !p.Due(0, 0) {
		t.Error("a slot that was never asked")
	}
	p.Told(0, 10, true)
	for now, want := range map[int]bool{10: false, 14: false, 15: true, 16: true, 1 << 40: true} {
		if p.Due(0, now) != want {
			t.Errorf("at %d", now)
		}
	}
	p.Told(0, 12, false)
	if p.Due(0, 16) || !p.Due(0, 17) || !p.Due(1, 12) {
		t.Error("behind a second one")
	}
}

// P801
func TestDrop(t *testing.T) {
	p := made(t, 2, 1, 5)
	p.Told(7, 1, true)
	p.Told(7, 2, true)
	if !p.Up(7) || !p.Drop(7) || p.Up(7) || p.Drop(7) || !p.Due(7, 2) {
		t.Error("what is dropped is known")
	}
	if p.Told(7, 3, true) != api.Same || p.Told(7, 4, true) != api.Up {
		t.Error("what is dropped begins anew")
	}
	p.Told(8, 5, true)
	if !p.Drop(8) || p.Told(8, 6, true) != api.Same {
		t.Error("a row begins anew behind Drop")
	}
}

// P801
func TestOtherSlots(t *testing.T) {
	p := made(t, 1, 1, 1)
	for _, slot := range []int{-1, 64, -1 << 63, 1<<63 - 1} {
		if p.Told(slot, 0, true) != api.Same || p.Up(slot) || p.Due(slot, 100) || p.Drop(slot) {
			t.Errorf("slot %d", slot)
		}
	}
}

// P801, P7: against whole histories, told once more; slots and objects do not touch each other.
func TestAny(t *testing.T) {
	type tale struct {
		rise, fall, every int
		p                 *Pulse
		up                map[int]bool
		told              map[int][]bool // since the last verdict, or drop
		last              map[int]int
	}
	r := rand.New(rand.NewSource(1))
	var tales []*tale
	for range 6 {
		x := &tale{1 + r.Intn(10), 1 + r.Intn(10), 1 + r.Intn(8), nil, map[int]bool{}, map[int][]bool{}, map[int]int{}}
		x.p = made(t, x.rise, x.fall, x.every)
		tales = append(tales, x)
	}
	for now := range 30000 {
		x, slot := tales[r.Intn(6)], r.Intn(4)*21
		last, known := x.last[slot]
		if x.p.Due(slot, now) != (!known || now >= last+x.every) || x.p.Up(slot) != x.up[slot] {
			t.Fatal("Due, Up")
		}
		if r.Intn(40) == 0 {
			if x.p.Drop(slot) != known {
				t.Fatal("Drop")
			}
			delete(x.last, slot)
			x.up[slot], x.told[slot] = false, nil
			continue
		}
		ok := r.Intn(12) < 6+[]int{-4, 4}[now/500%2]
		x.last[slot] = now
		x.told[slot] = append(x.told[slot], ok)
		n := 0
		for i := len(x.told[slot]) - 1; i >= 0 && x.told[slot][i] == ok; i-- {
			n++
		}
		want := api.Same
		if !x.up[slot] && ok && n == x.rise {
			want = api.Up
		}
		if x.up[slot] && !ok && n == x.fall {
			want = api.Down
		}
		if want != api.Same {
			x.up[slot], x.told[slot] = ok, nil
		}
		if got := x.p.Told(slot, now, ok); got != want {
			t.Fatalf("Told: %d, not %d", got, want)
		}
	}
}
