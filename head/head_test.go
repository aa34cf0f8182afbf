package head

import (
	"math/rand"
	"slices"
	"testing"

	"roundhouse/api"
	"roundhouse/pool"
)

func fresh(t *testing.T, l ...api.Entry) api.Pool {
	t.Helper()
	p, no := pool.New(10, 80, api.Key{A: 1}, api.Key{A: 2})
	if no != api.OK {
		t.Fatal(no)
	}
	p, _, no = pool.All(p, l...)
	if no != api.OK {
		t.Fatal(no)
	}
	return p
}

func made(t *testing.T, p api.Pool, units int) *Head {
	t.Helper()
	h, no := New(p, units)
	if no != api.OK || h == nil {
		t.Fatal(no)
	}
	return h
}

func bind(slot, addr int) api.Entry {
	return api.Entry{Kind: api.EBind, Slot: slot, Addr: addr, Port: 7, Weight: 1}
}

func do(kind, slot int) api.Entry { return api.Entry{Kind: kind, Slot: slot} }

func turn(n int) api.Entry { return api.Entry{Kind: api.ERotate, Key: api.Key{A: uint64(n)}} }

// apply is the pool behind an entry that must be done.
func apply(t *testing.T, p api.Pool, e api.Entry) api.Pool {
	t.Helper()
	p, no := pool.Apply(p, e)
	if no != api.OK {
		t.Fatal(no)
	}
	return p
}

func ack(unit, boot, version int) Note {
	return Note{Unit: unit, Boot: boot, Version: version, Ack: true}
}

func sent(t *testing.T, h *Head, want ...Note) {
	t.Helper()
	if got := h.Send(); !slices.Equal(got, want) {
		t.Fatalf("Send: %v, not %v", got, want)
	}
}

// P1101
func TestNew(t *testing.T) {
	for units, good := range map[int]bool{-1: false, 0: false, 1: true, 16: true, 17: false, 1 << 62: false} {
		h, no := New(fresh(t), units)
		if (no == api.OK) != good || (no == api.Range) == good || (h != nil) != good {
			t.Errorf("%d units: %v", units, no)
		}
	}
	p := fresh(t, turn(3), turn(4))
	h := made(t, p, 16)
	if h.Version() != 2 || h.Waiting() != 0 || h.Pool() != p {
		t.Error("a new one")
	}
	if made(t, fresh(t), 1).Version() != 0 {
		t.Error("example")
	}
	var want []Note
	for unit := range 16 {
		want = append(want, Note{Unit: unit, Version: 2, Whole: true, P: p})
	}
	sent(t, h, want...)
}

// P1101
func TestWish(t *testing.T) {
	h := made(t, fresh(t), 1)
	if no := h.Wish(); no != api.OK || h.Waiting() != 0 {
		t.Error("of none")
	}
	if no := h.Wish(bind(0, 1), do(api.EOpen, 0)); no != api.OK || h.Waiting() != 2 || h.Version() != 0 || h.Pool() != fresh(t) {
		t.Errorf("%v %d", no, h.Waiting())
	}
	for i, x := range []struct {
		l    []api.Entry
		want api.Errno
	}{
		{[]api.Entry{do(api.EOpen, 0)}, api.BadState}, {[]api.Entry{bind(1, 1)}, api.BadState}, {[]api.Entry{{}}, api.BadKind}, {[]api.Entry{do(api.EDrain, 0), do(api.EShut, 0), do(api.EFree, 0)}, api.Soon},
		{[]api.Entry{turn(1), do(api.EOpen, 64), {}}, api.BadSlot}, {[]api.Entry{bind(1, -1)}, api.Range}, {slices.Repeat([]api.Entry{{}}, 199), api.Range}, {slices.Repeat([]api.Entry{{}}, 198), api.BadKind},
	} {
		if no := h.Wish(x.l...); no != x.want || h.Waiting() != 2 {
			t.Errorf("%d: %v, %d wait", i, no, h.Waiting())
		}
	}
	if no := h.Wish(slices.Repeat([]api.Entry{turn(1)}, 198)...); no != api.OK || h.Waiting() != 200 {
		t.Errorf("%v, %d wait", no, h.Waiting())
	}
	if no := h.Wish(turn(1)); no != api.Range || h.Waiting() != 200 {
		t.Errorf("%v, %d wait", no, h.Waiting())
	}
	if no := h.Wish(); no != api.OK {
		t.Errorf("of none, where 200 wait: %v", no)
	}
	h.Heard(ack(0, 0, 0))
	h.Send()
	if h.Waiting() != 199 {
		t.Error("the first was not published")
	}
	if no := h.Wish(turn(1)); no != api.OK || h.Waiting() != 200 {
		t.Errorf("%v, %d wait", no, h.Waiting())
	}
}

// P1102
func TestSend(t *testing.T) {
	p := fresh(t)
	h := made(t, p, 2)
	h.Wish(bind(0, 1), do(api.EOpen, 0))
	whole := func(unit, boot, version int, p api.Pool) Note {
		return Note{Unit: unit, Boot: boot, Version: version, Whole: true, P: p}
	}
	sent(t, h, whole(0, 0, 0, p), whole(1, 0, 0, p))
	h.Heard(ack(1, 0, 0))
	sent(t, h, whole(0, 0, 0, p))
	h.Heard(ack(0, 3, -1))
	sent(t, h, whole(0, 3, 0, p))
	h.Heard(ack(0, 3, 0))
	one := apply(t, p, bind(0, 1))
	sent(t, h, Note{Unit: 0, Boot: 3, Version: 1, E: bind(0, 1)}, Note{Unit: 1, Version: 1, E: bind(0, 1)})
	if h.Version() != 1 || h.Pool() != one || h.Waiting() != 1 {
		t.Error("not published")
	}
	sent(t, h, Note{Unit: 0, Boot: 3, Version: 1, E: bind(0, 1)}, Note{Unit: 1, Version: 1, E: bind(0, 1)})
	h.Heard(ack(0, 3, 1))
	h.Heard(ack(1, 1, -1))
	sent(t, h, whole(1, 1, 1, one))
	h.Heard(ack(1, 1, 1))
	two := apply(t, one, do(api.EOpen, 0))
	sent(t, h, Note{Unit: 0, Boot: 3, Version: 2, E: do(api.EOpen, 0)}, Note{Unit: 1, Boot: 1, Version: 2, E: do(api.EOpen, 0)})
	h.Heard(ack(1, 1, 2))
	h.Heard(ack(0, 4, 0))
	sent(t, h, whole(0, 4, 2, two))
	h.Heard(ack(0, 4, 2))
	sent(t, h)
	if h.Waiting() != 0 || h.Version() != 2 || h.Pool() != two {
		t.Error("more was published than was wished")
	}
}

// P1102: where no entry was published, one version behind gets the whole pool.
func TestSendBehindNothing(t *testing.T) {
	p := fresh(t, turn(1), turn(2))
	h := made(t, p, 1)
	h.Heard(ack(0, 0, 1))
	sent(t, h, Note{Version: 2, Whole: true, P: p})
}

// P1102
func TestHeard(t *testing.T) {
	p := fresh(t, turn(1), turn(2), turn(3))
	for i, x := range []struct {
		notes []Note
		want  int // the boot of the note that is sent then, or -1: none is
	}{
		{nil, 0}, {[]Note{{Version: 3}}, 0}, {[]Note{{Version: 3, Whole: true, Boot: 9}}, 0}, {[]Note{ack(1, 0, 3), ack(-1, 0, 3), ack(1<<62, 0, 3), ack(-1<<63, 5, 3)}, 0},
		{[]Note{ack(0, 0, 3)}, -1}, {[]Note{ack(0, 0, 4)}, -1}, {[]Note{ack(0, 0, 1<<62)}, -1}, {[]Note{ack(0, 0, 3), ack(0, 0, 1)}, -1}, {[]Note{ack(0, 0, 3), ack(0, 0, -1)}, -1},
		{[]Note{ack(0, 0, 3), ack(0, 1, -1)}, 1}, {[]Note{ack(0, 0, 3), ack(0, 1, 2)}, 1}, {[]Note{ack(0, 2, 1), ack(0, 1, 3)}, 2}, {[]Note{ack(0, 2, 1), ack(0, 2, 3)}, -1}, {[]Note{ack(0, -1, 3)}, 0},
		{[]Note{ack(0, 5, -9), ack(0, 5, -1)}, 5}, {[]Note{ack(0, 5, -9), ack(0, 5, 3)}, -1},
	} {
		h := made(t, p, 1)
		for _, n := range x.notes {
			h.Heard(n)
		}
		l := h.Send()
		if x.want < 0 && len(l) != 0 || x.want >= 0 && (len(l) != 1 || l[0].Boot != x.want) {
			t.Errorf("%d: %v", i, l)
		}
		if h.Version() != 3 || h.Waiting() != 0 {
			t.Errorf("%d: %d", i, h.Version())
		}
	}
}

// P1102: below -1 counts as -1: else one version behind 0 could seem to be held.
func TestHeardFarBelow(t *testing.T) {
	h := made(t, fresh(t), 1)
	h.Wish(turn(5))
	h.Heard(ack(0, 1, -1<<63))
	sent(t, h, Note{Boot: 1, Version: 0, Whole: true, P: fresh(t)})
}

// P1102: one who says that it is ahead holds up what is next.
func TestAheadOfAll(t *testing.T) {
	h := made(t, fresh(t), 2)
	h.Wish(turn(5))
	h.Heard(ack(0, 0, 1))
	h.Heard(ack(1, 0, 0))
	sent(t, h)
	if h.Version() != 0 || h.Waiting() != 1 {
		t.Error("published ahead of a word")
	}
	h.Heard(ack(0, 1, 0))
	sent(t, h, Note{Unit: 0, Boot: 1, Version: 1, E: turn(5)}, Note{Unit: 1, Version: 1, E: turn(5)})
}

// P1101 to P1103, T5, P5, P7: against lists, told once more, whatever is heard.
func TestAny(t *testing.T) {
	r := rand.New(rand.NewSource(1))
	published := 0
	for range 60 {
		units := 1 + r.Intn(4)
		h, other := made(t, fresh(t), units), made(t, fresh(t), units)
		p, last, waiting := fresh(t), api.Entry{}, []api.Entry{}
		boots, versions := make([]int, units), slices.Repeat([]int{-1}, units)
		for range 600 {
			switch r.Intn(4) {
			case 0:
				l := make([]api.Entry, r.Intn(4))
				for i := range l {
					l[i] = []api.Entry{bind(r.Intn(4), 1+r.Intn(4)), do(2+r.Intn(4), r.Intn(4)), do(2+r.Intn(4), r.Intn(4)), turn(r.Intn(99))}[r.Intn(4)]
				}
				_, _, want := pool.All(p, append(slices.Clone(waiting), l...)...)
				if len(waiting)+len(l) > 200 {
					want = api.Range
				}
				if want == api.OK {
					waiting = append(waiting, l...)
				}
				if no := h.Wish(l...); no != want {
					t.Fatalf("Wish %v: %v, not %v", l, no, want)
				}
			case 1:
				if len(waiting) > 0 && !slices.ContainsFunc(versions, func(v int) bool { return v != p.Version }) {
					p, last, waiting = apply(t, p, waiting[0]), waiting[0], waiting[1:]
					published++
				}
				var want []Note
				for unit, v := range versions {
					n := Note{Unit: unit, Boot: boots[unit], Version: p.Version, Whole: true, P: p}
					if last != (api.Entry{}) && v == p.Version-1 {
						n = Note{Unit: unit, Boot: boots[unit], Version: p.Version, E: last}
					}
					if v < p.Version {
						want = append(want, n)
					}
				}
				sent(t, h, want...)
			default:
				unit := r.Intn(units)
				n := ack(unit, boots[unit]+[]int{0, 0, 0, 0, 0, -1, 1}[r.Intn(7)], p.Version+[]int{0, 0, 0, 0, 0, 0, -1, -2, 1}[r.Intn(9)])
				n.Ack = r.Intn(10) > 0
				if n.Version > p.Version && r.Intn(20) > 0 {
					n.Version = p.Version
				}
				h.Heard(n)
				if v := max(n.Version, -1); n.Ack && (n.Boot > boots[unit] || n.Boot == boots[unit] && v > versions[unit]) {
					boots[unit], versions[unit] = n.Boot, v
				}
			}
			if h.Version() != p.Version || h.Pool() != p || h.Waiting() != len(waiting) {
				t.Fatalf("%d, %d wait; not %d, %d", h.Version(), h.Waiting(), p.Version, len(waiting))
			}
		}
		if other.Version() != 0 || other.Waiting() != 0 || other.Pool() != fresh(t) {
			t.Fatal("another head has changed")
		}
	}
	if published < 500 {
		t.Errorf("only %d published", published)
	}
}
