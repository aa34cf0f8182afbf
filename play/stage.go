package play

import (
	"strconv"
	"strings"

	"roundhouse/api"
	"roundhouse/order"
	"roundhouse/pool"
	"roundhouse/pulse"
	"roundhouse/yard"
)

// What a script finds at first.
const (
	units   = 3
	ownAddr = 10
	ownPort = 80
	rise    = 2
	fall    = 3
	every   = 1
)

// maxAll is how many notes one line delivers at most.
const maxAll = 1000

// maxWords is how many words the longest line has.
const maxWords = 6

// anyWords stands for a command that counts its words itself.
const anyWords = -1

// command is what a line's first word asks for: how many words are behind it, and what is done with them; false: they are none.
type command struct {
	words int
	do    func(s *stage, words []string) (string, bool)
}

// stage is what a script plays on.
type stage struct {
	yard     *yard.Yard
	pulse    *pulse.Pulse
	time     int
	commands map[string]command
}

func newStage() *stage {
	p, _ := pool.New(ownAddr, ownPort, api.Key{A: 1, B: 1}, api.Key{A: 2, B: 2})
	y, _ := yard.New(p, units)
	u, _ := pulse.New(rise, fall, every)
	return &stage{yard: y, pulse: u, commands: commands()}
}

func commands() map[string]command {
	return map[string]command{
		"add":      {3, (*stage).add},
		"remove":   {2, (*stage).remove},
		"rotate":   {2, (*stage).rotate},
		"wish":     {anyWords, (*stage).wish},
		"tick":     {0, (*stage).tick},
		"go":       {1, onNumber((*stage).deliver)},
		"copy":     {1, onNumber((*stage).deliverCopy)},
		"lose":     {1, onNumber((*stage).lose)},
		"all":      {0, (*stage).deliverAll},
		"packet":   {2, (*stage).packet},
		"crash":    {1, onNumber((*stage).crash)},
		"probe":    {2, (*stage).probe},
		"versions": {0, (*stage).versions},
	}
}

// answer does a line, and tells its answer.
func (s *stage) answer(line string) string {
	// One word more than there may be stays whole, so that a long line that is none is not taken apart.
	words := strings.SplitN(line, " ", maxWords+1)
	c, is := s.commands[words[0]]
	if !is || c.words != anyWords && c.words != len(words)-1 {
		return noLine
	}
	told, is := c.do(s, words[1:])
	if !is {
		return noLine
	}
	return told
}

func (s *stage) add(words []string) (string, bool) {
	n, is := numbers(words)
	if !is {
		return "", false
	}
	return s.wished(order.Add(s.yard.Pool(), n[0], n[1], n[2])), true
}

func (s *stage) remove(words []string) (string, bool) {
	n, is := numbers(words)
	if !is {
		return "", false
	}
	return s.wished(order.Remove(s.yard.Pool(), n[0], n[1])), true
}

func (s *stage) rotate(words []string) (string, bool) {
	n, is := numbers(words)
	if !is {
		return "", false
	}
	k := api.Key{A: uint64(n[0]), B: uint64(n[1])}
	return s.wished(order.Rotate(s.yard.Pool(), k), api.OK), true
}

// wished wishes an order's entries, if it was no error.
func (s *stage) wished(l []api.Entry, no api.Errno) string {
	if no == api.OK {
		no = s.yard.Wish(l...)
	}
	if no != api.OK {
		return no.Error()
	}
	return no.Error() + " " + strconv.Itoa(len(l))
}

func (s *stage) wish(words []string) (string, bool) {
	e, is := order.Parse(strings.Join(words, " "))
	if !is {
		return "", false
	}
	return s.yard.Wish(e).Error(), true
}

func (s *stage) tick([]string) (string, bool) {
	s.time++
	return strconv.Itoa(s.yard.Tick()), true
}

// onNumber does what has one number, and may be done or not.
func onNumber(do func(s *stage, n int) bool) func(*stage, []string) (string, bool) {
	return func(s *stage, words []string) (string, bool) {
		n, is := number(words[0])
		if !is {
			return "", false
		}
		if do(s, n) {
			return "ok", true
		}
		return "no", true
	}
}

func (s *stage) deliver(i int) bool     { return s.yard.Deliver(i, false) }
func (s *stage) deliverCopy(i int) bool { return s.yard.Deliver(i, true) }
func (s *stage) lose(i int) bool        { return s.yard.Lose(i) }
func (s *stage) crash(unit int) bool    { return s.yard.Crash(unit) }

func (s *stage) deliverAll([]string) (string, bool) {
	n := 0
	for n < maxAll && s.yard.Deliver(0, false) {
		n++
	}
	return strconv.Itoa(n), true
}

func (s *stage) packet(words []string) (string, bool) {
	unit, is := number(words[0])
	if !is {
		return "", false
	}
	b, is := Bytes(words[1])
	if !is || len(b) == 0 {
		return "", false
	}
	return outcome(s.yard.Packet(unit, b)), true
}

func outcome(o api.Outcome) string {
	if o.Drop != api.OK {
		return o.Drop.Error()
	}
	words := []string{"to", place(o.Slot)}
	if o.Slot >= 0 {
		words = append(words, chosenBy(o.Cookie))
	}
	return strings.Join(append(words, Hex(o.Bytes)), " ")
}

// place tells where a packet goes: to a slot, or out to a client.
func place(slot int) string {
	if slot < 0 {
		return "out"
	}
	return strconv.Itoa(slot)
}

func chosenBy(cookie bool) string {
	if cookie {
		return "cookie"
	}
	return "wheel"
}

func (s *stage) probe(words []string) (string, bool) {
	slot, is := number(words[0])
	if !is || words[1] != "0" && words[1] != "1" {
		return "", false
	}
	verdict := s.pulse.Told(slot, s.time, words[1] == "1")
	// What it leads to may have been wished already; then it is refused, and that is well.
	s.yard.Wish(order.Mark(s.yard.Pool(), slot, verdict)...)
	switch verdict {
	case api.Up:
		return "up", true
	case api.Down:
		return "down", true
	}
	return "same", true
}

func (s *stage) versions([]string) (string, bool) {
	var l []string
	for unit := range units {
		v, up := s.yard.Version(unit)
		if up {
			l = append(l, strconv.Itoa(v))
		} else {
			l = append(l, "-")
		}
	}
	return strings.Join(l, " "), true
}

// numbers reads all words as numbers.
func numbers(words []string) ([]int, bool) {
	var l []int
	for _, w := range words {
		n, is := number(w)
		if !is {
			return nil, false
		}
		l = append(l, n)
	}
	return l, true
}

// number reads digits without noughts ahead, below 2^63.
func number(s string) (int, bool) {
	n, err := strconv.ParseUint(s, 10, 64)
	if err != nil || n > 1<<63-1 || len(s) > 1 && s[0] == '0' {
		return 0, false
	}
	return int(n), true
}
