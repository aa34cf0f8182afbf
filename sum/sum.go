// Package sum: sums of bytes. See doc/01-sum.md.
package sum

// Where the two bytes of a pair stand in its number, and how many bits it has.
const (
	low = 8 * iota
	high
	wide
)

// full is the greatest number of a pair, and what bytes that are right add up to.
const full = 1<<wide - 1

// Add is all pairs of bytes together, by Plus.
func Add(b []byte) int {
	total, at := 0, 0
next:
	if at+1 < len(b) {
		total = Plus(total, pair(b[at], b[at+1]))
		at += 2
		goto next
	}
	if at < len(b) {
		total = Plus(total, pair(b[at], 0))
	}
	return total
}

// Plus adds; what goes beyond a pair comes in again from below.
func Plus(a, b int) int {
	if a+b > full {
		return a + b - full
	}
	return a + b
}

// Of is what makes bytes right, laid among them where a pair of noughts was.
func Of(b []byte) int { return full - Add(b) }

// Right tells whether bytes, their sum among them, add up as they must.
func Right(b []byte) bool { return Add(b) == full }

// Turn tells what a sum becomes where one pair changes, so that none of the others need be seen.
func Turn(sum, before, after int) int {
	return full - Plus(full-sum, Plus(full-before, after))
}

func pair(first, second byte) int { return int(first)<<high | int(second)<<low }
