package yard

import (
	"bytes"
	"math/rand"
	"reflect"
	"slices"
	"testing"

	"roundhouse/api"
	"roundhouse/head"
	"roundhouse/opts"
	"roundhouse/plane"
	"roundhouse/pool"
	"roundhouse/wire"
)

func fresh(t *testing.T, l ...api.Entry) api.Pool {
	t.Helper()
	p, no := pool.New(10, 80, api.Key{A: 1}, api.Key{A: 2})
	if no != api.OK {
		t.Fatal(no)
	}
	p, _, no = pool.All(p, l...)
	if no != api.OK {
		t.Fatal(no)
	}
	return p
}

func made(t *testing.T, p api.Pool, units int) *Yard {
	t.Helper()
	y, no := New(p, units)
	if no != api.OK || y == nil {
		t.Fatal(no)
	}
	return y
}

func bind(slot, addr int) api.Entry {
	return api.Entry{Kind: api.EBind, Slot: slot, Addr: addr, Port: 7, Weight: 1}
}

func do(kind, slot int) api.Entry { return api.Entry{Kind: kind, Slot: slot} }

func turn(n int) api.Entry { return api.Entry{Kind: api.ERotate, Key: api.Key{A: uint64(n)}} }

// versions are those of the units; -1 of one that is down.
func versions(t *testing.T, y *Yard, units int) []int {
	t.Helper()
	var l []int
	for unit := range units {
		v, up := y.Version(unit)
		if !up {
			if v != 0 {
				t.Fatalf("a version %d beside a false", v)
			}
			v = -1
		}
		l = append(l, v)
	}
	return l
}

// settle delivers all notes, first to last, till there are none.
func settle(t *testing.T, y *Yard) {
	t.Helper()
	for range 10000 {
		if !y.Deliver(0, false) {
			return
		}
	}
	t.Fatal("notes without end")
}

func expect(t *testing.T, y *Yard, notes int, want ...int) {
	t.Helper()
	if got := versions(t, y, len(want)); y.Notes() != notes || !slices.Equal(got, want) {
		t.Fatalf("%d notes, %v; not %d, %v", y.Notes(), got, notes, want)
	}
}

// P1201
func TestNew(t *testing.T) {
	for units, good := range map[int]bool{-1: false, 0: false, 1: true, 16: true, 17: false} {
		y, no := New(fresh(t), units)
		if (no == api.OK) != good || (no == api.Range) == good || (y != nil) != good {
			t.Errorf("%d units: %v", units, no)
		}
	}
	p := fresh(t, turn(3))
	y := made(t, p, 3)
	expect(t, y, 0, -1, -1, -1, -1, -1)
	if y.Pool() != p {
		t.Error("another pool")
	}
}

// P1201
func TestNotes(t *testing.T) {
	y := made(t, fresh(t), 2)
	if no := y.Wish(bind(0, 1), do(api.EOpen, 5)); no != api.BadState {
		t.Error(no)
	}
	if no := y.Wish(bind(0, 1)); no != api.OK {
		t.Error(no)
	}
	if y.Tick() != 2 || y.Tick() != 4 || y.Notes() != 4 {
		t.Error("Tick")
	}
	for _, i := range []int{-1, 4, 1 << 62, -1 << 63} {
		if y.Deliver(i, false) || y.Deliver(i, true) || y.Lose(i) {
			t.Errorf("note %d", i)
		}
	}
	expect(t, y, 4, -1, -1)
	if !y.Deliver(1, true) {
		t.Error("Deliver")
	}
	expect(t, y, 5, -1, 0)
	if !y.Deliver(1, false) {
		t.Error("Deliver")
	}
	expect(t, y, 5, -1, 0)
	if !y.Lose(0) {
		t.Error("Lose")
	}
	expect(t, y, 4, -1, 0) // whole to 0, to 1, an ack of 1, of 1
	if !y.Deliver(2, true) || !y.Deliver(0, false) {
		t.Error("Deliver")
	}
	expect(t, y, 4, 0, 0) // whole to 1, acks of 1, 1, 0
	if y.Tick() != 5 {
		t.Error("Tick")
	}
	if y.Pool() != fresh(t) {
		t.Error("published without a word of 0")
	}
	if !y.Deliver(3, false) || y.Tick() != 6 || y.Pool() != fresh(t, bind(0, 1)) {
		t.Error("not published")
	}
	expect(t, y, 6, 0, 0) // whole to 1, acks of 1, 1, whole to 0, entries to 0, 1
	if !y.Deliver(4, true) {
		t.Error("Deliver")
	}
	expect(t, y, 7, 1, 0)
	if !y.Deliver(4, true) || !y.Deliver(3, true) {
		t.Error("Deliver")
	}
	expect(t, y, 9, 1, 0)
	settle(t, y)
	expect(t, y, 0, 1, 1)
	if y.Tick() != 0 {
		t.Error("all have all")
	}
}

// P1201
func TestCrash(t *testing.T) {
	y := made(t, fresh(t), 2)
	for _, unit := range []int{-1, 2, 1 << 62, -1 << 63} {
		if _, up := y.Version(unit); up || y.Crash(unit) {
			t.Errorf("unit %d", unit)
		}
		if o := y.Packet(unit, nil); !reflect.DeepEqual(o, api.Outcome{Drop: api.NotUp, Slot: -1}) {
			t.Errorf("unit %d: %+v", unit, o)
		}
	}
	y.Tick()
	settle(t, y)
	y.Wish(turn(1), turn(2))
	y.Tick()
	if !y.Crash(1) {
		t.Error("Crash")
	}
	expect(t, y, 2, 0, -1)
	if o := y.Packet(1, nil); o.Drop != api.NotUp || o.Slot != -1 {
		t.Errorf("%+v", o)
	}
	y.Deliver(1, true) // of an earlier boot: nothing but an ack of the new one
	expect(t, y, 3, 0, -1)
	y.Deliver(2, false)
	y.Tick()
	expect(t, y, 4, 0, -1) // entry to 0, to 1's earlier boot, entry to 0, whole to 1
	y.Deliver(3, true)
	expect(t, y, 5, 0, 1)
	y.Deliver(1, true)
	expect(t, y, 6, 0, 1)
	y.Crash(1)
	y.Deliver(3, false)
	expect(t, y, 6, 0, -1)
	for range 4 {
		y.Tick()
		settle(t, y)
	}
	expect(t, y, 0, 2, 2)
}

// P1201: an entry does not bring a unit up, nor does it go but from the version ahead of it.
func TestEntryFits(t *testing.T) {
	y := made(t, fresh(t), 1)
	y.Tick()
	settle(t, y)
	y.Wish(turn(1), turn(2), turn(3))
	y.Tick()
	y.Deliver(0, true)
	y.Deliver(1, false)
	y.Tick()
	expect(t, y, 2, 1) // entry 1, entry 2
	y.Deliver(0, true)
	expect(t, y, 3, 1)
	y.Deliver(1, false)
	expect(t, y, 3, 2)
	y.Deliver(0, false)
	expect(t, y, 3, 2)
	if y.Pool() != fresh(t, turn(1), turn(2)) {
		t.Error("another pool")
	}
}

// P1201: a whole pool does not take a unit back.
func TestWholeFits(t *testing.T) {
	y := made(t, fresh(t), 1)
	y.Tick()
	y.Deliver(0, true)
	y.Deliver(1, false)
	y.Wish(turn(1))
	y.Tick()
	y.Deliver(1, false)
	expect(t, y, 2, 1)
	y.Deliver(0, false)
	expect(t, y, 2, 1)
}

// model is a yard, told once more: a head, units as planes and pools, and notes in a list.
type model struct {
	h     *head.Head
	pools []*api.Pool
	boots []int
	notes []head.Note
	plane []*plane.Plane
}

func (m *model) deliver(t *testing.T, i int, keep bool) {
	n := m.notes[i]
	if !keep {
		m.notes = append(append([]head.Note{}, m.notes[:i]...), m.notes[i+1:]...)
	}
	if n.Ack {
		m.h.Heard(n)
		return
	}
	had := m.pools[n.Unit]
	if n.Boot == m.boots[n.Unit] {
		if n.Whole && (had == nil || had.Version < n.Version) {
			m.pools[n.Unit] = &n.P
		}
		if !n.Whole && had != nil && n.Version == had.Version+1 {
			p, no := pool.Apply(*had, n.E)
			if no != api.OK {
				t.Fatal(no)
			}
			m.pools[n.Unit] = &p
		}
	}
	now := m.pools[n.Unit]
	if now != had {
		m.plane[n.Unit].Load(*now)
	}
	ack := head.Note{Unit: n.Unit, Boot: m.boots[n.Unit], Version: -1, Ack: true}
	if now != nil {
		ack.Version = now.Version
	}
	m.notes = append(m.notes, ack)
}

// someWish is entries that may well be done.
func someWish(r *rand.Rand) []api.Entry {
	l := make([]api.Entry, 1+r.Intn(2))
	for i := range l {
		l[i] = []api.Entry{bind(r.Intn(3), 1+r.Intn(3)), do(2+r.Intn(4), r.Intn(3)), do(2+r.Intn(4), r.Intn(3)), turn(r.Intn(99))}[r.Intn(4)]
	}
	return l
}

// somePacket goes in, or out of a backend.
func somePacket(r *rand.Rand) []byte {
	p := api.Packet{Kind: 1 + r.Intn(2), Life: 9, From: 50 + r.Intn(9), FromPort: 1, To: 10, ToPort: 80, Label: r.Intn(65536), Opts: opts.Make(uint32(r.Intn(1<<20)), r.Uint32())}
	if r.Intn(2) == 0 {
		p.From, p.FromPort, p.To, p.ToPort = 1+r.Intn(3), 7, 50+r.Intn(9), 1
	}
	b, _ := wire.Build(p)
	return b
}

// P1201, P1202, T1, T5: whatever is lost, doubled, late, or crashes.
func TestAny(t *testing.T) {
	r := rand.New(rand.NewSource(1))
	published, gone := 0, 0
	for range 60 {
		units := 1 + r.Intn(4)
		y := made(t, fresh(t), units)
		m := &model{pools: make([]*api.Pool, units), boots: make([]int, units)}
		m.h, _ = head.New(fresh(t), units)
		for range units {
			m.plane = append(m.plane, plane.New())
		}
		for range 800 {
			switch x := r.Intn(40); {
			case x < 3:
				l := someWish(r)
				if a, b := y.Wish(l...), m.h.Wish(l...); a != b {
					t.Fatalf("Wish: %v, not %v", a, b)
				}
			case x < 8:
				m.notes = append(m.notes, m.h.Send()...)
				if got := y.Tick(); got != len(m.notes) {
					t.Fatalf("Tick: %d, not %d", got, len(m.notes))
				}
			case x < 32 && len(m.notes) > 0:
				i, keep := r.Intn(len(m.notes)), r.Intn(6) == 0
				m.deliver(t, i, keep)
				if !y.Deliver(i, keep) {
					t.Fatal("Deliver")
				}
			case x < 36 && len(m.notes) > 0:
				i := r.Intn(len(m.notes))
				m.notes = append(append([]head.Note{}, m.notes[:i]...), m.notes[i+1:]...)
				if !y.Lose(i) {
					t.Fatal("Lose")
				}
			case x == 36:
				unit := r.Intn(units)
				m.pools[unit] = nil
				m.boots[unit]++
				m.plane[unit].Crash()
				if !y.Crash(unit) {
					t.Fatal("Crash")
				}
			default:
				unit, b := r.Intn(units), somePacket(r)
				a, c := y.Packet(unit, b), m.plane[unit].Take(b)
				if !reflect.DeepEqual(a, c) {
					t.Fatalf("Packet: %+v, not %+v", a, c)
				}
				if a.Drop == api.OK {
					gone++
				}
			}
			same(t, y, m)
		}
		published += y.Pool().Version
	}
	if published < 600 || gone < 300 {
		t.Errorf("only %d published, %d packets went on", published, gone)
	}
}

// same holds a yard against the model, and P1202.
func same(t *testing.T, y *Yard, m *model) {
	t.Helper()
	if y.Notes() != len(m.notes) || y.Pool() != m.h.Pool() {
		t.Fatalf("%d notes, version %d", y.Notes(), y.Pool().Version)
	}
	for unit, p := range m.pools {
		v, up := y.Version(unit)
		if up != (p != nil) || up && v != p.Version || !up && v != 0 {
			t.Fatalf("unit %d: %d %v", unit, v, up)
		}
		if of := y.Pool().Version; up && v != of && v != of-1 {
			t.Fatalf("P1202: unit %d of version %d, the pool's is %d", unit, v, of)
		}
	}
}

// T5: where nothing is lost all comes everywhere.
func TestAllComesEverywhere(t *testing.T) {
	r := rand.New(rand.NewSource(2))
	for range 30 {
		units := 1 + r.Intn(16)
		y := made(t, fresh(t), units)
		wished := 0
		for range 60 {
			l := someWish(r)
			if y.Wish(l...) == api.OK {
				wished += len(l)
			}
		}
		for range wished + 2 {
			y.Tick()
			settle(t, y)
		}
		if y.Pool().Version != wished || !slices.Equal(versions(t, y, units), slices.Repeat([]int{wished}, units)) {
			t.Fatalf("%d wished, %v", wished, versions(t, y, units))
		}
	}
}

// T1: units of one version tell the same of the same bytes.
func TestUnitsAlike(t *testing.T) {
	y := made(t, fresh(t), 4)
	y.Wish(bind(0, 1), do(api.EOpen, 0), bind(1, 2), do(api.EOpen, 1))
	for range 6 {
		y.Tick()
		settle(t, y)
	}
	p, _ := wire.Build(api.Packet{Kind: api.Gram, Life: 9, From: 50, FromPort: 1, To: 10, ToPort: 80})
	first := y.Packet(0, p)
	if first.Drop != api.OK {
		t.Fatalf("%+v", first)
	}
	for unit := range 4 {
		if o := y.Packet(unit, p); o.Slot != first.Slot || !bytes.Equal(o.Bytes, first.Bytes) {
			t.Errorf("unit %d: %+v", unit, o)
		}
	}
}
