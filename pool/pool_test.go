package pool

import (
	"math/rand"
	"testing"

	"roundhouse/api"
	"roundhouse/cookie"
)

var one, two = api.Key{A: 1, B: 1}, api.Key{A: 2, B: 2}

func fresh(t *testing.T) api.Pool {
	t.Helper()
	p, no := New(10, 80, one, two)
	if no != api.OK {
		t.Fatal(no)
	}
	return p
}

func bind(slot, addr, port, weight int) api.Entry {
	return api.Entry{Kind: api.EBind, Slot: slot, Addr: addr, Port: port, Weight: weight}
}

func do(kind, slot int) api.Entry { return api.Entry{Kind: kind, Slot: slot} }

func turn(a uint64) api.Entry { return api.Entry{Kind: api.ERotate, Key: api.Key{A: a}} }

// P601
func TestNew(t *testing.T) {
	p := fresh(t)
	if p != (api.Pool{Addr: 10, Port: 80, Ring: api.Ring{Epoch: 1, Cur: one, Next: two}}) {
		t.Errorf("%+v", p)
	}
	for _, x := range [][3]int{{0, 0, 0}, {1<<32 - 1, 65535, 0}, {-1, 0, 1}, {1 << 32, 0, 1}, {0, -1, 1}, {0, 65536, 1}} {
		p, no := New(x[0], x[1], one, two)
		if (no == api.Range) != (x[2] == 1) || (no == api.OK) != (x[2] == 0) || no != api.OK && p != (api.Pool{}) {
			t.Errorf("%v: %v", x, no)
		}
	}
}

// P601
func TestCheck(t *testing.T) {
	k := api.Key{B: 1}
	for i, x := range []struct {
		e    api.Entry
		want api.Errno
	}{
		{api.Entry{}, api.BadKind}, {api.Entry{Kind: 7, Slot: -1}, api.BadKind}, {api.Entry{Kind: -1}, api.BadKind},
		{bind(0, 0, 0, 1), api.OK}, {bind(63, 1<<32-1, 65535, 8), api.OK},
		{bind(-1, -1, 0, 0), api.BadSlot}, {bind(64, 0, 0, 1), api.BadSlot},
		{bind(0, -1, 0, 1), api.Range}, {bind(0, 1<<32, 0, 1), api.Range}, {bind(0, 0, -1, 1), api.Range}, {bind(0, 0, 65536, 1), api.Range}, {bind(0, 0, 0, 0), api.Range}, {bind(0, 0, 0, 9), api.Range},
		{api.Entry{Kind: api.EBind, Weight: 1, Key: k}, api.Range},
		{do(api.EOpen, 63), api.OK}, {do(api.EDrain, 63), api.OK}, {do(api.EShut, 63), api.OK}, {do(api.EFree, 63), api.OK},
		{do(api.EOpen, 64), api.BadSlot}, {do(api.EDrain, -1), api.BadSlot}, {do(api.EShut, 64), api.BadSlot}, {do(api.EFree, 1<<63-1), api.BadSlot},
		{api.Entry{Kind: api.EOpen, Addr: 1}, api.Range}, {api.Entry{Kind: api.EDrain, Port: 1}, api.Range}, {api.Entry{Kind: api.EShut, Weight: 1}, api.Range}, {api.Entry{Kind: api.EFree, Key: k}, api.Range},
		{api.Entry{Kind: api.EOpen, Slot: 64, Addr: 1}, api.BadSlot},
		{turn(0), api.OK}, {turn(9), api.OK}, {api.Entry{Kind: api.ERotate, Slot: 1}, api.BadSlot}, {api.Entry{Kind: api.ERotate, Slot: 1, Addr: 1}, api.BadSlot},
		{api.Entry{Kind: api.ERotate, Addr: 1}, api.Range}, {api.Entry{Kind: api.ERotate, Port: 1}, api.Range}, {api.Entry{Kind: api.ERotate, Weight: 1}, api.Range},
	} {
		if no := Check(x.e); no != x.want {
			t.Errorf("%d: %+v: %v, not %v", i, x.e, no, x.want)
		}
		if x.want == api.OK {
			continue
		}
		if p, no := Apply(fresh(t), x.e); no != x.want || p != (api.Pool{}) {
			t.Errorf("%d: Apply: %v", i, no)
		}
	}
}

// P602: from each state each entry.
func TestStates(t *testing.T) {
	lead := map[int][]api.Entry{
		api.Free:   nil,
		api.Fresh:  {bind(5, 7, 8, 3)},
		api.Active: {bind(5, 7, 8, 3), do(api.EOpen, 5)},
		api.Drain:  {bind(5, 7, 8, 3), do(api.EOpen, 5), do(api.EDrain, 5)},
		api.Shut:   {bind(5, 7, 8, 3), do(api.EShut, 5), turn(1), turn(2), turn(3)},
	}
	to := map[[2]int]int{
		{api.Free, api.EBind}: api.Fresh, {api.Fresh, api.EOpen}: api.Active, {api.Drain, api.EOpen}: api.Active,
		{api.Active, api.EDrain}: api.Drain, {api.Fresh, api.EShut}: api.Shut, {api.Drain, api.EShut}: api.Shut, {api.Shut, api.EFree}: api.Free,
	}
	for state, l := range lead {
		p, _, no := All(fresh(t), l...)
		if no != api.OK || p.Slots[5].State != state {
			t.Fatalf("%d: %v", state, no)
		}
		for kind := api.EBind; kind <= api.EFree; kind++ {
			e := do(kind, 5)
			if kind == api.EBind {
				e = bind(5, 70, 80, 4)
			}
			got, no := Apply(p, e)
			next, may := to[[2]int{state, kind}]
			if !may {
				if no != api.BadState || got != (api.Pool{}) {
					t.Errorf("state %d, entry %d: %v", state, kind, no)
				}
				continue
			}
			want := p
			want.Version++
			want.Slots[5].State = next
			switch kind {
			case api.EBind:
				want.Slots[5] = api.Slot{State: api.Fresh, Addr: 70, Port: 80, Weight: 4}
			case api.EShut:
				want.Slots[5].Since = 1
			case api.EFree:
				want.Slots[5] = api.Slot{}
			}
			if no != api.OK || got != want {
				t.Errorf("state %d, entry %d: %v %+v", state, kind, no, got.Slots[5])
			}
		}
	}
}

// P602
func TestBindTaken(t *testing.T) {
	p, n, no := All(fresh(t), bind(0, 1, 1, 1), bind(1, 2, 2, 1), do(api.EShut, 1))
	if no != api.OK || n != 3 {
		t.Fatal(no)
	}
	for i, x := range []struct {
		e    api.Entry
		want api.Errno
	}{
		{bind(2, 1, 1, 1), api.BadState}, {bind(2, 2, 2, 1), api.BadState}, {bind(2, 10, 80, 1), api.BadState}, {bind(0, 5, 5, 1), api.BadState}, {bind(1, 5, 5, 1), api.BadState},
		{bind(2, 1, 2, 1), api.OK}, {bind(2, 10, 81, 1), api.OK}, {bind(2, 11, 80, 1), api.OK}, {bind(2, 0, 0, 1), api.OK},
	} {
		if _, no := Apply(p, x.e); no != x.want {
			t.Errorf("%d: %v, not %v", i, no, x.want)
		}
	}
}

// P602
func TestFreeSoon(t *testing.T) {
	p, _, _ := All(fresh(t), turn(7), bind(63, 1, 1, 8), do(api.EShut, 63))
	if p.Slots[63].Since != 2 {
		t.Fatalf("%+v", p.Slots[63])
	}
	for epoch := 2; epoch < 8; epoch++ {
		q, no := Apply(p, do(api.EFree, 63))
		if epoch < 5 && (no != api.Soon || q != (api.Pool{})) || epoch >= 5 && no != api.OK {
			t.Errorf("epoch %d: %v", epoch, no)
		}
		if q, no := Apply(p, do(api.EFree, 62)); no != api.BadState || q != (api.Pool{}) {
			t.Errorf("a free one: %v", no)
		}
		p, _ = Apply(p, turn(uint64(epoch)))
	}
}

// P602
func TestRotate(t *testing.T) {
	p := fresh(t)
	q, no := Apply(p, turn(9))
	want := p
	want.Version, want.Ring = 1, api.Ring{Epoch: 2, Prev: one, Cur: two, Next: api.Key{A: 9}}
	if no != api.OK || q != want || want.Ring != cookie.Next(p.Ring, api.Key{A: 9}) {
		t.Errorf("%v %+v", no, q.Ring)
	}
}

// P602
func TestAll(t *testing.T) {
	p := fresh(t)
	q, n, no := All(p)
	if q != p || n != 0 || no != api.OK {
		t.Error("of none")
	}
	l := []api.Entry{bind(0, 1, 1, 1), do(api.EOpen, 0), do(api.EShut, 0), do(api.EDrain, 0), {}}
	q, n, no = All(p, l...)
	if n != 2 || no != api.BadState || q.Version != 2 || q.Slots[0].State != api.Active {
		t.Errorf("%d %v", n, no)
	}
	if q, n, no = All(p, api.Entry{}); q != p || n != 0 || no != api.BadKind {
		t.Errorf("%d %v", n, no)
	}
	if l[0] != bind(0, 1, 1, 1) || l[4] != (api.Entry{}) {
		t.Error("what was handed in has changed")
	}
}

// P603
func TestFindTakes(t *testing.T) {
	p, _, no := All(fresh(t), bind(3, 1, 1, 1), bind(4, 1, 2, 1), do(api.EOpen, 4), bind(5, 2, 1, 1), do(api.EOpen, 5), do(api.EDrain, 5), bind(6, 3, 3, 1), do(api.EShut, 6))
	if no != api.OK {
		t.Fatal(no)
	}
	for _, x := range [][3]int{{1, 1, 3}, {1, 2, 4}, {2, 1, 5}, {3, 3, -1}, {0, 0, -1}, {10, 80, -1}, {2, 2, -1}, {-1, -1, -1}, {1 << 40, 1, -1}} {
		slot, is := Find(p, x[0], x[1])
		if is != (x[2] >= 0) || is && slot != x[2] || !is && slot != 0 {
			t.Errorf("%v: %d %v", x, slot, is)
		}
	}
	if _, is := Find(fresh(t), 0, 0); is {
		t.Error("example")
	}
	for state := -1; state < 7; state++ {
		if Takes(api.Slot{State: state}) != (state == api.Fresh || state == api.Active || state == api.Drain) {
			t.Errorf("state %d", state)
		}
	}
}

// W4: whatever changes are tried, no two backends stand in one place, and a pool stays one that may be.
func TestAnyChanges(t *testing.T) {
	r := rand.New(rand.NewSource(1))
	p := fresh(t)
	done := 0
	for range 40000 {
		e := api.Entry{Kind: 1 + r.Intn(6), Slot: r.Intn(8)}
		switch e.Kind {
		case api.EBind:
			e.Addr, e.Port, e.Weight = r.Intn(12), 80, 1+r.Intn(8)
		case api.ERotate:
			e.Slot, e.Key = 0, api.Key{A: r.Uint64()}
		}
		q, no := Apply(p, e)
		if no != api.OK {
			continue
		}
		if q.Version != p.Version+1 || q.Addr != 10 || q.Port != 80 {
			t.Fatalf("%+v", q)
		}
		p = q
		done++
		seen := map[[2]int]bool{{10, 80}: true}
		for _, s := range p.Slots {
			if s.State == api.Free {
				if s != (api.Slot{}) {
					t.Fatalf("%+v", s)
				}
				continue
			}
			if s.State != api.Shut && s.Since != 0 {
				t.Fatalf("%+v", s)
			}
			if at := [2]int{s.Addr, s.Port}; seen[at] {
				t.Fatalf("%+v stands twice", s)
			} else {
				seen[at] = true
			}
		}
	}
	if done < 5000 {
		t.Errorf("only %d changes", done)
	}
}
