package sum

import (
	"math/rand"
	"testing"
)

// slow adds pairs without any carry on the way: the rest of a division by 65535, but 65535 where that is 0 of what is not all noughts.
func slow(b []byte) int {
	total := 0
	for i, x := range b {
		total += int(x) << (8 * (1 - i%2))
	}
	if total > 0 && total%65535 == 0 {
		return 65535
	}
	return total % 65535
}

// some makes bytes of that length, many of them 0 or 255.
func some(r *rand.Rand, n int) []byte {
	b := make([]byte, n)
	for i := range b {
		b[i] = []byte{0, 255, byte(r.Intn(256))}[r.Intn(3)]
	}
	return b
}

// P101
func TestPlus(t *testing.T) {
	for _, x := range [][3]int{{0, 0, 0}, {0, 65535, 65535}, {1, 65534, 65535}, {1, 65535, 1}, {2, 65534, 1}, {65535, 65535, 65535}, {32768, 32768, 1}, {300, 44, 344}} {
		if got := Plus(x[0], x[1]); got != x[2] {
			t.Errorf("Plus(%d, %d): %d, not %d", x[0], x[1], got, x[2])
		}
		if got := Plus(x[1], x[0]); got != x[2] {
			t.Errorf("Plus(%d, %d): %d, not %d", x[1], x[0], got, x[2])
		}
	}
}

// P101
func TestAddOfRight(t *testing.T) {
	known := []struct {
		b   []byte
		add int
	}{
		{nil, 0}, {[]byte{}, 0}, {[]byte{0}, 0}, {[]byte{0, 0, 0}, 0},
		{[]byte{7}, 7 * 256}, {[]byte{1, 2}, 258}, {[]byte{1, 2, 3}, 258 + 768},
		{[]byte{255, 255}, 65535}, {[]byte{255, 255, 0, 0}, 65535}, {[]byte{255, 255, 0, 1}, 1}, {[]byte{255, 254, 0, 1}, 65535},
		{[]byte{0, 255, 255}, 65535}, {[]byte{1, 0, 255}, 1},
	}
	for _, x := range known {
		if Add(x.b) != x.add || Of(x.b) != 65535-x.add || Right(x.b) != (x.add == 65535) {
			t.Errorf("%v: Add %d, Of %d, Right %v, not %d", x.b, Add(x.b), Of(x.b), Right(x.b), x.add)
		}
	}
	r := rand.New(rand.NewSource(1))
	for range 3000 {
		b := some(r, r.Intn(60))
		before := string(b)
		if Add(b) != slow(b) || Of(b) != 65535-slow(b) || Right(b) != (slow(b) == 65535) {
			t.Fatalf("%v: %d, not %d", b, Add(b), slow(b))
		}
		if string(b) != before {
			t.Fatal("what was handed in has changed")
		}
	}
	long := make([]byte, 1<<20)
	for i := range long {
		long[i] = 255
	}
	if Add(long) != 65535 {
		t.Error("a long one")
	}
}

// P102
func TestTurn(t *testing.T) {
	for _, x := range [][4]int{{0, 0, 0, 0}, {65535, 0, 0, 0}, {65535, 65535, 0, 65535}, {65535, 7, 7, 0}, {100, 5, 6, 99}, {100, 6, 5, 101}, {0, 0, 1, 65534}, {0, 65535, 65535, 0}, {0, 1, 0, 1}, {3, 0, 65535, 3}} {
		if got := Turn(x[0], x[1], x[2]); got != x[3] {
			t.Errorf("Turn %v: %d", x, got)
		}
	}
}

// P103, T4
func TestTurnKeepsRight(t *testing.T) {
	r := rand.New(rand.NewSource(2))
	for range 5000 {
		b := some(r, 4+2*r.Intn(12))
		at, sumAt := 2*r.Intn(len(b)/2), 2*r.Intn(len(b)/2)
		if at == sumAt {
			continue
		}
		b[sumAt], b[sumAt+1] = 0, 0
		s := Of(b)
		b[sumAt], b[sumAt+1] = byte(s>>8), byte(s)
		if !Right(b) {
			t.Fatalf("%v is not right with its Of", b)
		}
		before, after := pair(b[at], b[at+1]), []int{0, 65535, r.Intn(65536)}[r.Intn(3)]
		s = Turn(s, before, after)
		if s < 0 || s > 65535 {
			t.Fatalf("Turn answers %d", s)
		}
		b[at], b[at+1], b[sumAt], b[sumAt+1] = byte(after>>8), byte(after), byte(s>>8), byte(s)
		if Right(b) == (slow(b) == 0) {
			t.Fatalf("%v: right is %v", b, Right(b))
		}
	}
}

// P1, P8
func TestWrongNumbers(t *testing.T) {
	for _, a := range []int{-1, 65536, -1 << 63, 1<<63 - 1} {
		for _, b := range []int{0, a} {
			Plus(a, b)
			Turn(a, b, 0)
			Turn(b, 0, a)
			Turn(0, a, b)
		}
	}
}
