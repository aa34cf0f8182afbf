package yard

import "slices"

// lane is what is on its way, in order. It holds pointers, so that little is moved where one in front is taken off.
type lane[T any] struct{ l []*T }

func (x *lane[T]) long() int { return len(x.l) }

func (x *lane[T]) add(v T) { x.l = append(x.l, &v) }

func (x *lane[T]) has(i int) bool { return i >= 0 && i < len(x.l) }

// at is the i-th, if there is one.
func (x *lane[T]) at(i int) (T, bool) {
	if !x.has(i) {
		var none T
		return none, false
	}
	return *x.l[i], true
}

// drop takes the i-th off, if there is one.
func (x *lane[T]) drop(i int) bool {
	if !x.has(i) {
		return false
	}
	x.l = slices.Delete(x.l, i, i+1)
	return true
}
