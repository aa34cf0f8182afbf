package wire

import "roundhouse/api"

// summed is the bytes that the body's sum goes over.
func summed(b []byte) []byte {
	long := len(b) - bodyAt
	end := [4]byte{0, b[kindAt], byte(long >> 8), byte(long)}
	if b[kindAt] == api.Fault {
		return append(end[:4:4], b[bodyAt:]...)
	}
	l := append(b[fromAt:pieceAt:pieceAt], end[:]...)
	return append(l, b[bodyAt:]...)
}

// sumAt is where the body's sum stands.
func sumAt(b []byte) int {
	if b[kindAt] == api.Fault {
		return faultSumAt
	}
	return talkSumAt
}

// isBare tells whether a packet that may be is a gram without a sum.
func isBare(b []byte) bool {
	return b[kindAt] == api.Gram && pair(b, talkSumAt) == 0
}

// fillSum keeps a gram that has a sum from looking as if it had none.
func fillSum(b []byte) {
	if isBare(b) {
		put(b[talkSumAt:talkDataAt:talkDataAt], maxPair)
	}
}

func isKind(kind int) bool { return kind >= api.Stream && kind <= api.Fault }

func within(n, most int) bool { return n >= 0 && n <= most }

// pair is the two bytes from at on as a number; behind the last byte a 0 stands.
func pair(b []byte, at int) int {
	if at+1 == len(b) {
		return int(b[at]) << 8
	}
	return number(b[at : at+2])
}

// number reads bytes, the highest first.
func number(b []byte) int {
	n := 0
	for _, x := range b {
		n = n<<8 | int(x)
	}
	return n
}

// put lays a number over all of b, the highest byte first.
func put(b []byte, n int) {
	for i := len(b) - 1; i >= 0; i-- {
		b[i] = byte(n)
		n >>= 8
	}
}

func clone(b []byte) []byte {
	out := make([]byte, len(b))
	copy(out, b)
	return out
}
