package play

import (
	"bytes"
	"encoding/hex"
	"math/rand"
	"strconv"
	"strings"
	"testing"

	"roundhouse/api"
	"roundhouse/cookie"
	"roundhouse/opts"
	"roundhouse/wire"
)

// plays holds a script against its answers: pairs of a line and what it is answered.
func plays(t *testing.T, pairs ...string) {
	t.Helper()
	var script, want []string
	for i := 0; i < len(pairs); i += 2 {
		script, want = append(script, pairs[i]), append(want, pairs[i+1])
	}
	got := strings.Split(Run(strings.Join(script, "\n")), "\n")
	if len(got) != len(want)+1 || got[len(want)] != "" {
		t.Fatalf("%d lines are answered by %d: %q", len(want), len(got)-1, got)
	}
	for i := range want {
		if got[i] != want[i] {
			t.Errorf("line %d, %q: %q, not %q", i, script[i], got[i], want[i])
		}
	}
}

// P1301
func TestHexBytes(t *testing.T) {
	if Hex(nil) != "" || Hex([]byte{0, 1, 0x9a, 0xbc, 0xde, 0xff}) != "00019abcdeff" {
		t.Error("Hex")
	}
	r := rand.New(rand.NewSource(1))
	for n := range 300 {
		b := make([]byte, n)
		r.Read(b)
		if Hex(b) != hex.EncodeToString(b) {
			t.Fatalf("%x: %s", b, Hex(b))
		}
		if back, is := Bytes(Hex(b)); !is || !bytes.Equal(back, b) {
			t.Fatalf("%x: %x %v", b, back, is)
		}
	}
	for _, s := range []string{"0", "000", "0g", "g0", "AB", "aB", " 00", "00 ", "0x00", "0\n", "é", "\xff\xff", "0/", "0:", "0`", "-1"} {
		if b, is := Bytes(s); is || len(b) != 0 {
			t.Errorf("%q: %x", s, b)
		}
	}
}

// P1302
func TestLines(t *testing.T) {
	for script, want := range map[string]string{
		"": "", "\n": "", "\n\n\n": "", "versions": "- - -\n", "versions\n": "- - -\n", "\n\nversions\n\ntick\n\n": "- - -\n3\n", "tick\ntick": "3\n6\n",
		" ": "text\n", "\r\n": "text\n", "\x00": "text\n", "\xff": "text\n", "tick\r\n": "text\n",
	} {
		if got := Run(script); got != want {
			t.Errorf("%q: %q, not %q", script, got, want)
		}
	}
	for n, over := range map[int]int{299: 0, 300: 0, 301: 1, 1000: 700} {
		want := ""
		for i := range n - over {
			want += strconv.Itoa(3*i+3) + "\n"
		}
		if got := Run(strings.Repeat("tick\n\n", n)); got != want+strings.Repeat("text\n", over) {
			t.Errorf("%d lines: %q", n, got)
		}
	}
}

// P1302
func TestNoLines(t *testing.T) {
	for _, s := range []string{
		"text", "Tick", "tick ", " tick", "tick 1", "ticks", "tic", "all 1", "versions 0", "versions ", "all ",
		"go", "go ", "go  0", "go -1", "go +1", "go 01", "go 00", "go 1 1", "go x", "go 9223372036854775808", "go 18446744073709551616", "go 1_0", "go 0x1", "go ٣",
		"copy", "copy 01", "lose", "lose 1 2", "lose -0", "crash", "crash x", "crash 0 0", "crash 9223372036854775808",
		"add", "add 1 2", "add 1 2 3 4", "add 1 2 03", "add -1 2 3", "add 1  2 3", "add 9223372036854775808 2 3", "remove 1", "remove 1 2 3", "remove x 2", "remove 1 9223372036854775808",
		"rotate", "rotate 1", "rotate 1 2 3", "rotate 9223372036854775808 1", "rotate 1 01",
		"wish", "wish ", "wish tick", "wish open", "wish open 64", "wish open 03", "wish  open 3", "wish open 3 ", "wish bind 0 1 2 9", "wish bind 0 1 2 3 4", "wish rotate 18446744073709551616 0", "wish bind 0 1 2 3 4 5",
		"packet", "packet 0", "packet 0 ", "packet 0 0", "packet 0 0G", "packet 0 AB", "packet x 00", "packet 0 00 00", "packet 01 00", "packet 9223372036854775808 00",
		"probe", "probe 0", "probe 0 2", "probe 0 01", "probe 0 00", "probe 0 x", "probe x 1", "probe 0 1 1", "probe 9223372036854775808 1",
	} {
		if got := Run(s); got != "text\n" {
			t.Errorf("%q: %q", s, got)
		}
	}
}

// P1302
func TestWishes(t *testing.T) {
	plays(t,
		"add 20 8000 3", "ok 2", "add 20 8000 3", "state", "add 10 80 1", "state", "add 4294967296 1 1", "range", "add 1 65536 1", "range", "add 1 1 0", "range", "add 1 1 9", "range", "add 9223372036854775807 1 1", "range",
		"remove 20 8000", "none", "remove 9223372036854775807 0", "none",
		"wish bind 0 30 1 1", "state", "wish drain 0", "ok", "wish drain 0", "state", "wish shut 0", "ok", "wish free 0", "soon", "wish open 7", "state", "wish rotate 18446744073709551615 0", "ok",
		"rotate 9223372036854775807 5", "ok 1", "versions", "- - -",
		"tick", "3", "all", "6", "versions", "0 0 0",
		"tick", "3", "all", "6", "versions", "1 1 1", "remove 20 8000", "state",
		"tick", "3", "all", "6", "tick", "3", "all", "6", "tick", "3", "all", "6", "tick", "3", "all", "6", "tick", "3", "all", "6", "versions", "6 6 6",
		"tick", "0", "all", "0", "add 20 8000 1", "state", "rotate 1 1", "ok 2", "rotate 2 2", "state", "tick", "3", "all", "6", "tick", "3", "all", "6", "rotate 3 3", "ok 1", "add 20 8000 1", "ok 2",
	)
}

// P1302: an add whose wish is refused though order's word was none, and a log that is full.
func TestWishRefused(t *testing.T) {
	plays(t, "wish bind 0 5 5 1", "ok", "add 6 6 1", "state", "wish bind 1 6 6 1", "ok")
	script := strings.Repeat("rotate 1 1\n", 201)
	if got := Run(script + "wish rotate 1 1\nadd 5 5 1"); got != strings.Repeat("ok 1\n", 200)+"range\nrange\nrange\n" {
		t.Errorf("%q", got)
	}
}

// P1302
func TestNotes(t *testing.T) {
	plays(t,
		"go 0", "no", "copy 0", "no", "lose 0", "no", "all", "0", "go 9223372036854775807", "no",
		"tick", "3", "go 3", "no", "copy 2", "ok", "versions", "- - 0", "lose 0", "ok", "go 0", "ok", "versions", "- 0 0",
		"tick", "6", "crash 1", "ok", "crash 3", "no", "crash 9223372036854775807", "no", "versions", "- - 0", "all", "10", "versions", "0 - 0",
		"tick", "1", "all", "2", "versions", "0 0 0", "tick", "0",
	)
}

// P1302: at most 1000 notes of one line.
func TestAllAtMost(t *testing.T) {
	script := strings.Repeat("tick\n", 290) + "all\nall\ntick"
	got := strings.Split(Run(script), "\n")
	if got[290] != "1000" || got[291] != "740" || got[292] != "0" {
		t.Errorf("%v", got[289:])
	}
}

// built is a packet as digits.
func built(t *testing.T, p api.Packet) string {
	t.Helper()
	b, no := wire.Build(p)
	if no != api.OK {
		t.Fatal(no)
	}
	return Hex(b)
}

// P1302, T2
func TestPackets(t *testing.T) {
	in := api.Packet{Kind: api.Gram, Life: 9, From: 50, FromPort: 1, To: 10, ToPort: 80, Data: []byte{7}}
	on := in
	on.Life, on.To, on.ToPort = 8, 20, 8000
	out := api.Packet{Kind: api.Stream, Life: 9, From: 20, FromPort: 8000, To: 50, ToPort: 1, Opts: opts.Make(0x12345, 0)}
	plays(t,
		"packet 0 "+built(t, in), "down", "packet 3 00", "down", "packet 9223372036854775807 00", "down", "tick", "3", "all", "6",
		"packet 0 00", "short", "packet 3 00", "down", "packet 0 "+built(t, in), "none", "packet 0 "+built(t, out), "stranger",
		"add 20 8000 1", "ok 2", "tick", "3", "all", "6", "packet 1 "+built(t, in), "none", "tick", "3", "all", "6",
		"packet 2 "+built(t, in), "to 0 wheel "+built(t, on),
	)
	ready := "add 20 8000 1\nadd 21 8000 8\ntick\nall\ntick\nall\ntick\nall\nadd 21 8000 8\ntick\nall\ntick\nall\n"
	answer := strings.Fields(lastOf(t, ready+"packet 1 "+built(t, out)))
	if len(answer) != 3 || answer[0] != "to" || answer[1] != "out" {
		t.Fatalf("%v", answer)
	}
	b, _ := Bytes(answer[2])
	p, _ := wire.Parse(b)
	_, val, _, _ := opts.Stamp(p.Opts)
	back := built(t, api.Packet{Kind: api.Stream, Life: 9, From: 50, FromPort: 1, To: 10, ToPort: 80, Opts: opts.Make(1, val)})
	want := built(t, api.Packet{Kind: api.Stream, Life: 8, From: 50, FromPort: 1, To: 20, ToPort: 8000, Opts: opts.Make(1, 0)})
	for _, between := range []string{"", "remove 99 99\n", "wish drain 0\ntick\nall\n", "rotate 3 3\ntick\nall\n", "crash 2\nrotate 3 3\ntick\nall\ntick\nall\n"} {
		if got := lastOf(t, ready+between+"packet 2 "+back); got != "to 0 cookie "+want {
			t.Errorf("%q: %q", between, got)
		}
	}
	for _, between := range []string{"remove 20 8000\ntick\nall\ntick\nall\n", "rotate 3 3\nrotate 4 4\ntick\nall\ntick\nall\n"} {
		if got := lastOf(t, ready+between+"packet 2 "+back); !strings.HasPrefix(got, "to ") || !strings.Contains(got, " wheel ") {
			t.Errorf("%q: %q", between, got)
		}
	}
}

// P1302: where a packet goes to a client, `out` stands in the slot's place, and no word behind it tells what chose.
func TestOut(t *testing.T) {
	ready := "add 100 8000 1\ntick\nall\ntick\nall\ntick\nall\n"
	gram := api.Packet{Kind: api.Gram, Life: 9, From: 100, FromPort: 8000, To: 7, ToPort: 777}
	if got := lastOf(t, ready+"packet 2 "+built(t, gram)); got != "to out 020800180000000a000000070000fdce005003095610a67b" {
		t.Errorf("%q", got)
	}
	bare, full := gram, gram
	bare.Bare, full.Data = true, []byte{1, 2, 3}
	plain := gram
	plain.Kind, plain.Flags = api.Stream, api.Opening
	stamped := plain
	stamped.Opts = opts.Make(1, 2)
	for i, p := range []api.Packet{gram, bare, full, plain, stamped} {
		got := strings.Split(lastOf(t, ready+"packet 0 "+built(t, p)), " ")
		if len(got) != 3 || got[0] != "to" || got[1] != "out" {
			t.Fatalf("%d: %q", i, got)
		}
		b, is := Bytes(got[2])
		on, no := wire.Parse(b)
		if !is || no != api.OK || on.To != 7 || on.ToPort != 777 || on.From != 10 || on.FromPort != 80 || on.Life != 8 {
			t.Errorf("%d: %v %v", i, on, no)
		}
		dropped := p
		dropped.Life = 1
		if got := lastOf(t, ready+"packet 0 "+built(t, dropped)); got != api.Expired.Error() {
			t.Errorf("%d: %q", i, got)
		}
	}
}

// P1302: the keys at first, and those that rotate brings.
func TestKeys(t *testing.T) {
	script := "add 20 8000 1\ntick\nall\ntick\nall\ntick\nall\n"
	out := built(t, api.Packet{Kind: api.Gram, Life: 9, From: 20, FromPort: 8000, To: 50, ToPort: 1})
	for i, k := range []api.Key{{A: 1, B: 1}, {A: 2, B: 2}, {A: 5, B: 6}, {A: 1<<64 - 1, B: 7}, {A: 1 << 62, B: 1<<63 - 1}} {
		c := cookie.Make(cookie.Ring(1+i, api.Key{}, k), api.Gram, api.Flow{Addr: 50, Port: 1, ToAddr: 10, ToPort: 80}, 0)
		want := "to out " + built(t, api.Packet{Kind: api.Gram, Life: 8, From: 10, FromPort: 80, To: 50, ToPort: 1, Label: c})
		if got := lastOf(t, script+"packet 1 "+out); got != want {
			t.Errorf("epoch %d: %q, not %q", i+1, got, want)
		}
		script += []string{"rotate 5 6", "wish rotate 18446744073709551615 7", "rotate 4611686018427387904 9223372036854775807", "rotate 0 0", "tick"}[i] + "\ntick\nall\n"
	}
}

// lastOf is what a script's last line is answered.
func lastOf(t *testing.T, script string) string {
	t.Helper()
	l := strings.Split(Run(script), "\n")
	return l[len(l)-2]
}

// P1302
func TestProbe(t *testing.T) {
	settled := func(n int) []string {
		var l []string
		for range n {
			l = append(l, "tick", "3", "all", "6")
		}
		return l
	}
	pairs := append([]string{"probe 0 1", "same", "probe 0 1", "up", "probe 0 1", "same", "add 20 8000 1", "ok 2"}, settled(3)...)
	pairs = append(pairs, "probe 0 0", "same", "probe 0 0", "same", "probe 0 1", "same", "probe 0 0", "same", "probe 0 0", "same", "probe 0 0", "down")
	pairs = append(pairs, settled(1)...)
	pairs = append(pairs, "versions", "3 3 3", "wish drain 0", "state", "probe 0 1", "same", "probe 0 1", "up")
	pairs = append(pairs, settled(1)...)
	pairs = append(pairs, "versions", "4 4 4", "wish open 0", "state", "tick", "0",
		"wish drain 0", "ok", "probe 0 0", "same", "probe 0 0", "same", "probe 0 0", "down")
	pairs = append(pairs, settled(1)...)
	pairs = append(pairs, "versions", "5 5 5", "tick", "0", "probe 64 1", "same", "probe 64 1", "same", "probe 9223372036854775807 1", "same")
	plays(t, pairs...)
}

// someLine is a line that may well be done.
func someLine(r *rand.Rand, packet string) string {
	n := func(most int) string { return strconv.Itoa(r.Intn(most)) }
	switch r.Intn(14) {
	case 0:
		return "add " + n(4) + " 7 " + strconv.Itoa(1+r.Intn(8))
	case 1:
		return "remove " + n(4) + " 7"
	case 2:
		return "rotate " + n(9) + " " + n(9)
	case 3, 4:
		return "tick"
	case 5, 6:
		return "go " + n(8)
	case 7:
		return "copy " + n(8)
	case 8:
		return "lose " + n(8)
	case 9:
		return "all"
	case 10:
		return "crash " + n(12)
	case 11:
		return "probe " + n(4) + " " + n(2)
	case 12:
		return "wish " + []string{"bind 5 9 9 1", "open 5", "drain 5", "shut 5", "free 5"}[r.Intn(5)]
	}
	return "packet " + n(3) + " " + packet
}

// P1303, P3, T1, T5: versions of units that are up are not more than one apart, and a script played again is answered alike.
func TestAny(t *testing.T) {
	r := rand.New(rand.NewSource(2))
	packet := built(t, api.Packet{Kind: api.Gram, Life: 9, From: 50, FromPort: 1, To: 10, ToPort: 80, Data: []byte{7}})
	ups := 0
	for range 60 {
		var lines []string
		for len(lines) < 290 {
			lines = append(lines, someLine(r, packet), "versions", "packet 0 "+packet, "packet 1 "+packet, "packet 2 "+packet)
		}
		script := strings.Join(lines, "\n")
		told := Run(script)
		if Run(script) != told {
			t.Fatal("played again it is answered otherwise")
		}
		answers := strings.Split(told, "\n")
		for i := 1; i < len(lines); i += 5 {
			if answers[i-1] == "text" {
				t.Fatalf("%q is no line", lines[i-1])
			}
			versions := strings.Fields(answers[i])
			for a, va := range versions {
				if va == "-" && answers[i+1+a] != "down" || va != "-" && answers[i+1+a] == "down" {
					t.Fatalf("unit %d: %s, %s", a, va, answers[i+1+a])
				}
				for b, vb := range versions {
					if va == "-" || vb == "-" {
						continue
					}
					x, _ := strconv.Atoi(va)
					y, _ := strconv.Atoi(vb)
					if x-y > 1 || y-x > 1 || x == y && answers[i+1+a] != answers[i+1+b] {
						t.Fatalf("%q: %q, %q", answers[i], answers[i+1+a], answers[i+1+b])
					}
					ups++
				}
			}
		}
	}
	if ups < 1000 {
		t.Errorf("only %d pairs of units were up", ups)
	}
}

// P1
func TestAnyText(t *testing.T) {
	r := rand.New(rand.NewSource(3))
	for range 3000 {
		b := make([]byte, r.Intn(200))
		for i := range b {
			b[i] = "\n\n 0123456789abcdefghiklmnopqrstuvwxyz\xff\x00"[r.Intn(39)]
		}
		lines := 0
		for _, l := range strings.Split(string(b), "\n") {
			lines += min(len(l), 1)
		}
		if got := strings.Count(Run(string(b)), "\n"); got != lines {
			t.Fatalf("%q: %d lines are answered by %d", b, lines, got)
		}
	}
	Run(strings.Repeat(" ", 1<<20))
	Run("packet 0 " + strings.Repeat("00", 1<<20))
}
