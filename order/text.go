package order

import (
	"strconv"
	"strings"

	"roundhouse/api"
	"roundhouse/pool"
)

// maxWords is how many words the longest text has.
const maxWords = 5

// Text is an entry as a line.
func Text(e api.Entry) string {
	if pool.Check(e) != api.OK {
		return ""
	}
	l := []string{word(e.Kind)}
	for _, n := range numbers(e) {
		l = append(l, strconv.FormatUint(n, 10))
	}
	return strings.Join(l, " ")
}

func word(kind int) string {
	switch kind {
	case api.EBind:
		return "bind"
	case api.EOpen:
		return "open"
	case api.EDrain:
		return "drain"
	case api.EShut:
		return "shut"
	case api.EFree:
		return "free"
	}
	return "rotate"
}

// numbers are an entry's fields as its text has them.
func numbers(e api.Entry) []uint64 {
	switch e.Kind {
	case api.EBind:
		return []uint64{uint64(e.Slot), uint64(e.Addr), uint64(e.Port), uint64(e.Weight)}
	case api.ERotate:
		return []uint64{e.Key.A, e.Key.B}
	}
	return []uint64{uint64(e.Slot)}
}

// Parse is the entry whose Text that is.
func Parse(s string) (api.Entry, bool) {
	// One more than there may be stays whole, so that a long text that is none is not taken apart.
	words := strings.SplitN(s, " ", maxWords+1)
	kind := api.EBind
next:
	if word(kind) != words[0] {
		if kind == api.ERotate {
			return api.Entry{}, false
		}
		kind++
		goto next
	}
	l, is := parseAll(words[1:])
	if !is {
		return api.Entry{}, false
	}
	e, is := entry(kind, l)
	if !is || pool.Check(e) != api.OK {
		return api.Entry{}, false
	}
	return e, true
}

// entry is the one of that kind with these numbers, if they are as many as it has.
func entry(kind int, l []uint64) (api.Entry, bool) {
	e := api.Entry{Kind: kind}
	if len(l) != len(numbers(e)) {
		return api.Entry{}, false
	}
	if kind == api.ERotate {
		e.Key = api.Key{A: l[0], B: l[1]}
		return e, true
	}
	e.Slot = int(l[0])
	if kind == api.EBind {
		e.Addr, e.Port, e.Weight = int(l[1]), int(l[2]), int(l[3])
	}
	return e, true
}

func parseAll(words []string) ([]uint64, bool) {
	var l []uint64
	for _, w := range words {
		n, is := parseNumber(w)
		if !is {
			return nil, false
		}
		l = append(l, n)
	}
	return l, true
}

// parseNumber reads digits without noughts ahead, up to what 64 bits hold.
func parseNumber(s string) (uint64, bool) {
	const most = 1<<64 - 1
	if s == "" || s[0] == '0' && len(s) > 1 {
		return 0, false
	}
	n := uint64(0)
	for _, r := range s {
		d, is := digit(r)
		if !is || n > (most-d)/10 {
			return 0, false
		}
		n = n*10 + d
	}
	return n, true
}

func digit(r rune) (uint64, bool) {
	if r < '0' || r > '9' {
		return 0, false
	}
	return uint64(r - '0'), true
}
