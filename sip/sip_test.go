package sip

import (
	"encoding/binary"
	"math/rand"
	"testing"

	"roundhouse/api"
)

// upTo is the bytes 0 to n - 1.
func upTo(n int) []byte {
	b := make([]byte, n)
	for i := range b {
		b[i] = byte(i)
	}
	return b
}

// plain is the sum told once more, over an array of the four numbers and padded bytes.
func plain(k api.Key, b []byte) uint64 {
	v := [4]uint64{k.A ^ 0x736f6d6570736575, k.B ^ 0x646f72616e646f6d, k.A ^ 0x6c7967656e657261, k.B ^ 0x7465646279746573}
	half := func(a, b, turn int) {
		v[a] += v[b]
		v[b] = v[b]<<turn | v[b]>>(64-turn)
		v[b] ^= v[a]
	}
	round := func() {
		half(0, 1, 13)
		v[0] = v[0]<<32 | v[0]>>32
		half(2, 3, 16)
		half(0, 3, 21)
		half(2, 1, 17)
		v[2] = v[2]<<32 | v[2]>>32
	}
	all := make([]byte, len(b)/8*8+8)
	copy(all, b)
	all[len(all)-1] = byte(len(b))
	for ; len(all) > 0; all = all[8:] {
		m := binary.LittleEndian.Uint64(all)
		v[3] ^= m
		round()
		round()
		v[0] ^= m
	}
	v[2] ^= 255
	for range 4 {
		round()
	}
	return v[0] ^ v[1] ^ v[2] ^ v[3]
}

// P201
func TestMake(t *testing.T) {
	k, is := Make(upTo(16))
	if !is || k != (api.Key{A: 0x0706050403020100, B: 0x0f0e0d0c0b0a0908}) {
		t.Errorf("%x %v", k, is)
	}
	for n := range 40 {
		k, is := Make(upTo(n))
		if is != (n == 16) || !is && k != (api.Key{}) {
			t.Errorf("of %d bytes: %x %v", n, k, is)
		}
	}
	if k, is := Make(nil); is || k != (api.Key{}) {
		t.Error("of nothing")
	}
}

// P202
func TestOfKnown(t *testing.T) {
	k, _ := Make(upTo(16))
	for n, want := range map[int]uint64{
		0: 0x726fdb47dd0e0e31, 1: 0x74f839c593dc67fd, 2: 0x0d6c8009d9a94f5a, 3: 0x85676696d7fb7e2d,
		4: 0xcf2794e0277187b7, 5: 0x18765564cd99a68d, 6: 0xcbc9466e58fee3ce, 7: 0xab0200f58b01d137,
		8: 0x93f5f5799a932462, 15: 0xa129ca6149be45e5,
	} {
		if got := Of(k, upTo(n)); got != want {
			t.Errorf("of %d bytes: %x, not %x", n, got, want)
		}
	}
	if Of(k, nil) != Of(k, []byte{}) {
		t.Error("no list and an empty one differ")
	}
}

// P202
func TestOfAny(t *testing.T) {
	r := rand.New(rand.NewSource(1))
	for n := range 600 {
		k := api.Key{A: r.Uint64(), B: r.Uint64()}
		b := make([]byte, n)
		r.Read(b)
		before := string(b)
		if got, want := Of(k, b), plain(k, b); got != want {
			t.Fatalf("of %d bytes: %x, not %x", n, got, want)
		}
		if string(b) != before {
			t.Fatal("what was handed in has changed")
		}
	}
}

// P202
func TestWords(t *testing.T) {
	r := rand.New(rand.NewSource(2))
	edges := []int{0, 1, -1, 255, 256, 1 << 32, 1<<63 - 1, -1 << 63}
	for n := range 80 {
		k := api.Key{A: r.Uint64(), B: r.Uint64()}
		var l []int
		var b []byte
		for range n {
			x := int(r.Uint64())
			if r.Intn(2) == 0 {
				x = edges[r.Intn(len(edges))]
			}
			l = append(l, x)
			b = binary.LittleEndian.AppendUint64(b, uint64(x))
		}
		if got, want := Words(k, l...), plain(k, b); got != want {
			t.Fatalf("of %v: %x, not %x", l, got, want)
		}
	}
	if Words(api.Key{}) != Of(api.Key{}, nil) {
		t.Error("of no words")
	}
}
