package order

import (
	"math/rand"
	"slices"
	"strconv"
	"strings"
	"testing"

	"roundhouse/api"
	"roundhouse/pool"
)

func fresh(t *testing.T) api.Pool {
	t.Helper()
	p, no := pool.New(10, 80, api.Key{A: 1}, api.Key{A: 2})
	if no != api.OK {
		t.Fatal(no)
	}
	return p
}

func apply(t *testing.T, p api.Pool, l ...api.Entry) api.Pool {
	t.Helper()
	p, _, no := pool.All(p, l...)
	if no != api.OK {
		t.Fatal(no)
	}
	return p
}

func bind(slot, addr, port, weight int) api.Entry {
	return api.Entry{Kind: api.EBind, Slot: slot, Addr: addr, Port: port, Weight: weight}
}

func do(kind, slot int) api.Entry { return api.Entry{Kind: kind, Slot: slot} }

func turn(a, b uint64) api.Entry {
	return api.Entry{Kind: api.ERotate, Key: api.Key{A: a, B: b}}
}

// full has backends 1 to 64 at ports 7.
func full(t *testing.T) api.Pool {
	p := fresh(t)
	for slot := range 64 {
		p = apply(t, p, bind(slot, slot+1, 7, 1))
	}
	return p
}

// P1001
func TestAdd(t *testing.T) {
	p := apply(t, fresh(t), bind(0, 1, 7, 1), bind(2, 2, 7, 1), do(api.EShut, 2))
	whole := full(t)
	for i, x := range []struct {
		p                  api.Pool
		addr, port, weight int
		slot               int
		no                 api.Errno
	}{
		{fresh(t), 5, 6, 8, 0, api.OK}, {p, 5, 6, 1, 1, api.OK}, {p, 0, 0, 1, 1, api.OK}, {p, 1<<32 - 1, 65535, 8, 1, api.OK}, {apply(t, p, bind(1, 9, 9, 9-1)), 5, 6, 1, 3, api.OK},
		{p, -1, 6, 1, 0, api.Range}, {p, 1 << 32, 6, 1, 0, api.Range}, {p, 1, -1, 1, 0, api.Range}, {p, 1, 65536, 1, 0, api.Range}, {p, 1, 7, 0, 0, api.Range}, {p, 1, 7, 9, 0, api.Range}, {whole, 1, 7, -1, 0, api.Range},
		{p, 1, 7, 1, 0, api.BadState}, {p, 2, 7, 1, 0, api.BadState}, {p, 10, 80, 1, 0, api.BadState}, {whole, 64, 7, 1, 0, api.BadState}, {whole, 10, 80, 1, 0, api.BadState},
		{p, 1, 8, 1, 1, api.OK}, {p, 10, 81, 1, 1, api.OK}, {p, 11, 80, 1, 1, api.OK},
		{whole, 65, 7, 1, 0, api.NoBack},
	} {
		l, no := Add(x.p, x.addr, x.port, x.weight)
		if no != x.no || no != api.OK && len(l) != 0 {
			t.Errorf("%d: %v %v", i, l, no)
		}
		if no != api.OK {
			continue
		}
		if !slices.Equal(l, []api.Entry{bind(x.slot, x.addr, x.port, x.weight), do(api.EOpen, x.slot)}) {
			t.Errorf("%d: %v", i, l)
		}
		apply(t, x.p, l...)
	}
}

// P1001
func TestRemove(t *testing.T) {
	p := apply(t, fresh(t), bind(0, 1, 7, 1), bind(1, 2, 7, 1), do(api.EOpen, 1), bind(2, 3, 7, 1), do(api.EOpen, 2), do(api.EDrain, 2), bind(3, 4, 7, 1), do(api.EShut, 3))
	for _, x := range []struct {
		addr, port int
		want       []api.Entry
	}{
		{1, 7, []api.Entry{do(api.EShut, 0)}}, {2, 7, []api.Entry{do(api.EDrain, 1), do(api.EShut, 1)}}, {3, 7, []api.Entry{do(api.EShut, 2)}},
		{4, 7, nil}, {0, 0, nil}, {10, 80, nil}, {1, 8, nil}, {-1, 7, nil}, {1 << 62, 1 << 62, nil},
	} {
		l, no := Remove(p, x.addr, x.port)
		if !slices.Equal(l, x.want) || (no == api.NoBack) != (x.want == nil) || (no == api.OK) != (x.want != nil) {
			t.Errorf("%d, %d: %v %v", x.addr, x.port, l, no)
		}
		apply(t, p, l...)
	}
}

// P1001
func TestRotate(t *testing.T) {
	k := api.Key{A: 5, B: 6}
	rotate := turn(5, 6)
	p := apply(t, fresh(t), bind(9, 1, 7, 1), bind(3, 2, 7, 1), bind(63, 3, 7, 1), bind(5, 4, 7, 1), do(api.EShut, 9), do(api.EShut, 3), turn(1, 1), do(api.EShut, 63))
	for epoch, want := range map[int][]api.Entry{
		2: {rotate}, 3: {rotate, do(api.EFree, 3), do(api.EFree, 9)}, 4: {rotate, do(api.EFree, 3), do(api.EFree, 9), do(api.EFree, 63)}, 5: {rotate, do(api.EFree, 3), do(api.EFree, 9), do(api.EFree, 63)},
	} {
		q := p
		for q.Ring.Epoch < epoch {
			q = apply(t, q, turn(2, 2))
		}
		l := Rotate(q, k)
		if !slices.Equal(l, want) {
			t.Errorf("epoch %d: %v", epoch, l)
		}
		apply(t, q, l...)
	}
	if l := Rotate(fresh(t), api.Key{}); !slices.Equal(l, []api.Entry{turn(0, 0)}) {
		t.Errorf("%v", l)
	}
}

// P1001
func TestMark(t *testing.T) {
	p := apply(t, fresh(t), bind(0, 1, 7, 1), bind(1, 2, 7, 1), do(api.EOpen, 1), bind(2, 3, 7, 1), do(api.EOpen, 2), do(api.EDrain, 2), bind(3, 4, 7, 1), do(api.EShut, 3))
	want := map[[2]int]int{{0, api.Up}: api.EOpen, {2, api.Up}: api.EOpen, {1, api.Down}: api.EDrain}
	for slot := -2; slot < 67; slot++ {
		for verdict := -1; verdict < 5; verdict++ {
			l := Mark(p, slot, verdict)
			kind, is := want[[2]int{slot, verdict}]
			if is && !slices.Equal(l, []api.Entry{do(kind, slot)}) || !is && len(l) != 0 {
				t.Errorf("slot %d, verdict %d: %v", slot, verdict, l)
			}
			apply(t, p, l...)
		}
	}
	for _, slot := range []int{-1 << 63, 1<<63 - 1} {
		if len(Mark(p, slot, api.Up)) != 0 {
			t.Errorf("slot %d", slot)
		}
	}
}

// P1002, P1003
func TestTextKnown(t *testing.T) {
	for s, e := range map[string]api.Entry{
		"bind 0 0 0 1": bind(0, 0, 0, 1), "bind 63 4294967295 65535 8": bind(63, 1<<32-1, 65535, 8),
		"open 3": do(api.EOpen, 3), "drain 0": do(api.EDrain, 0), "shut 63": do(api.EShut, 63), "free 10": do(api.EFree, 10),
		"rotate 0 0": turn(0, 0), "rotate 18446744073709551615 9223372036854775808": turn(1<<64-1, 1<<63),
	} {
		if got := Text(e); got != s {
			t.Errorf("Text of %+v: %q, not %q", e, got, s)
		}
		if got, is := Parse(s); !is || got != e {
			t.Errorf("Parse of %q: %+v %v", s, got, is)
		}
	}
}

// P1002
func TestParseNone(t *testing.T) {
	for _, s := range []string{
		"", " ", "bind", "open", "rotate", "wish", "open3", "Open 3", "open  3", "open 3 ", " open 3", "open 3\n", "open\t3", "open 3 4", "open 03", "open 00", "open +3", "open -3", "open -0", "open 3.0", "open 0x3", "open 1_0", "open ٣", "open \xff", "open 3\x00",
		"open 64", "drain 64", "shut 9223372036854775808", "free 18446744073709551615", "free 18446744073709551616", "free 18446744073709551619", "open 99999999999999999999999999",
		"bind 0 0 0", "bind 0 0 0 0", "bind 0 0 0 9", "bind 64 0 0 1", "bind 0 4294967296 0 1", "bind 0 0 65536 1", "bind 0 0 0 1 1", "bind 0 0 0 1 ", "bind 0 0  0 1", "bind 0 0 0 01", "bind 18446744073709551616 0 0 1", "bind 0 18446744073709551615 0 1",
		"rotate 1", "rotate 1 2 3", "rotate 18446744073709551616 0", "rotate 0 18446744073709551616", "rotate -1 0", "rotate 01 0", "rotate  1 0",
		"bind open 3", "\x00", "öpen 3", "open 3" + strings.Repeat(" 3", 1000), strings.Repeat(" ", 100000),
	} {
		if e, is := Parse(s); is || e != (api.Entry{}) {
			t.Errorf("Parse of %q: %+v", s, e)
		}
	}
}

// someEntry is any that pool.Check takes.
func someEntry(r *rand.Rand) api.Entry {
	switch kind := 1 + r.Intn(6); kind {
	case api.EBind:
		return bind(r.Intn(64), r.Intn(1<<32), r.Intn(65536), 1+r.Intn(8))
	case api.ERotate:
		return turn(r.Uint64()>>r.Intn(64), r.Uint64()>>r.Intn(64))
	default:
		return do(kind, r.Intn(64))
	}
}

// P1002, P1003: a text is an entry's just where Text of it is that text.
func TestThereAndBack(t *testing.T) {
	r := rand.New(rand.NewSource(1))
	for range 20000 {
		e := someEntry(r)
		s := Text(e)
		if got, is := Parse(s); !is || got != e {
			t.Fatalf("Parse of %q: %+v %v", s, got, is)
		}
		b := []byte(s)
		at := r.Intn(len(b))
		switch r.Intn(3) {
		case 0:
			b[at] = "0123456789 -x"[r.Intn(13)]
		case 1:
			b = slices.Insert(b, at, "0123456789 -x"[r.Intn(13)])
		case 2:
			b = slices.Delete(b, at, at+1)
		}
		got, is := Parse(string(b))
		if is && (pool.Check(got) != api.OK || Text(got) != string(b)) {
			t.Fatalf("Parse of %q: %+v", b, got)
		}
		if !is && got != (api.Entry{}) {
			t.Fatalf("%+v beside a false", got)
		}
		if should := may(string(b)); is != should {
			t.Fatalf("Parse of %q: %v", b, is)
		}
	}
}

// may tells once more whether a text is an entry's.
func may(s string) bool {
	words := strings.Split(s, " ")
	most := map[string][][2]uint64{"bind": {{0, 63}, {0, 1<<32 - 1}, {0, 65535}, {1, 8}}, "open": {{0, 63}}, "drain": {{0, 63}}, "shut": {{0, 63}}, "free": {{0, 63}}, "rotate": {{0, 1<<64 - 1}, {0, 1<<64 - 1}}}[words[0]]
	if most == nil || len(words) != len(most)+1 {
		return false
	}
	for i, w := range words[1:] {
		n, err := strconv.ParseUint(w, 10, 64)
		if err != nil || strconv.FormatUint(n, 10) != w || n < most[i][0] || n > most[i][1] {
			return false
		}
	}
	return true
}

// P1, P8
func TestWrong(t *testing.T) {
	for _, e := range []api.Entry{{}, {Kind: 9}, bind(-1, -1, -1, -1), do(api.EOpen, -1<<63), {Kind: api.ERotate, Slot: 4}} {
		Text(e)
	}
	var odd api.Pool
	for i := range odd.Slots {
		odd.Slots[i] = api.Slot{State: i - 3, Addr: -i, Port: 1 << 60, Since: 1<<63 - 1 - i}
	}
	odd.Ring.Epoch = 1<<63 - 1
	Add(odd, 1, 1, 1)
	Remove(odd, -5, 1<<60)
	Rotate(odd, api.Key{})
	Mark(odd, 5, api.Up)
}
