package wire

import (
	"roundhouse/api"
	"roundhouse/sum"
)

// Write lays a number over bytes of the body.
func Write(b []byte, at, n, v int) ([]byte, api.Errno) {
	if _, no := Parse(b); no != api.OK {
		return nil, no
	}
	if !mayWrite(b, at, n, v) {
		return nil, api.Range
	}
	out := clone(b)
	put(out[at:at+n:at+n], v)
	if !isBare(b) {
		turnBody(out, b, at, n)
		fillSum(out)
	}
	return out, api.OK
}

func mayWrite(b []byte, at, n, v int) bool {
	if n != 1 && n != 2 && n != 4 {
		return false
	}
	// at is held against what is left, as at and n together might go round.
	if !within(v, 1<<(8*n)-1) || at < bodyAt || at > len(b)-n {
		return false
	}
	return at+n <= sumAt(b) || at >= sumAt(b)+2
}

// Age takes one off a packet's life.
func Age(b []byte) ([]byte, api.Errno) {
	p, no := Parse(b)
	if no != api.OK {
		return nil, no
	}
	if p.Life <= 1 {
		return nil, api.Expired
	}
	out := clone(b)
	out[lifeAt] = byte(p.Life - 1)
	turn(out, headSumAt, pair(b, kindAt), pair(out, kindAt))
	return out, api.OK
}

// Nat gives a stream or a gram another place that it is from, or to.
func Nat(b []byte, source bool, addr, port int) ([]byte, api.Errno) {
	p, no := Parse(b)
	switch {
	case no != api.OK:
		return nil, no
	case p.Kind == api.Fault:
		return nil, api.BadKind
	case !within(addr, maxAddr) || !within(port, maxPair):
		return nil, api.Range
	}
	addrAt, portAt := toAt, toPortAt
	if source {
		addrAt, portAt = fromAt, fromPortAt
	}
	out := clone(b)
	put(out[addrAt:addrAt+4:addrAt+4], addr)
	put(out[portAt:portAt+2:portAt+2], port)
	for at := addrAt; at < addrAt+4; at += 2 {
		turn(out, headSumAt, pair(b, at), pair(out, at))
	}
	if !p.Bare {
		turnBody(out, b, addrAt, 4)
		turnBody(out, b, portAt, 2)
		fillSum(out)
	}
	return out, api.OK
}

// turnBody brings the body's sum of out up to date for the pairs that n bytes from at on touch. (All that the sum goes over begins at even places.)
func turnBody(out, b []byte, at, n int) {
	for i := at &^ 1; i < at+n; i += 2 {
		turn(out, sumAt(b), pair(b, i), pair(out, i))
	}
}

// turn brings the sum that stands at at up to date for a pair that was before and is after.
func turn(b []byte, at, before, after int) {
	put(b[at:at+2:at+2], sum.Turn(pair(b, at), before, after))
}
