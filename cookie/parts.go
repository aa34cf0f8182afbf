package cookie

import (
	"roundhouse/api"
	"roundhouse/sip"
)

// field is a run of bits in a number: where it begins, from the lowest on, and how wide it is.
type field[T int | uint32] struct{ at, wide uint }

// cut is as much of a number as the run holds, the lowest bits.
func (f field[T]) cut(v T) T { return v & (T(1)<<f.wide - 1) }

// of is what stands in the run of n.
func (f field[T]) of(n T) T { return f.cut(n >> f.at) }

// laid is v in the run, and noughts beside it.
func (f field[T]) laid(v T) T { return f.cut(v) << f.at }

// parts are what a cookie is made of; its slot is masked.
type parts struct{ epoch, slot, tag int }

// shape is where the cookies of a kind have their parts.
type shape struct{ epoch, slot, tag field[int] }

func shapeOf(kind int) shape {
	tag := field[int]{at: 0, wide: 12}
	if kind == api.Gram {
		tag.wide = 8
	}
	slot := field[int]{at: tag.wide, wide: 6}
	return shape{epoch: field[int]{at: slot.at + slot.wide, wide: 2}, slot: slot, tag: tag}
}

// beyond is the first number that is too great for a cookie.
func (s shape) beyond() int { return 1 << (s.epoch.at + s.epoch.wide) }

func (s shape) together(p parts) int {
	return s.epoch.laid(p.epoch) | s.slot.laid(p.slot) | s.tag.laid(p.tag)
}

func (s shape) apart(c int) parts {
	return parts{epoch: s.epoch.of(c), slot: s.slot.of(c), tag: s.tag.of(c)}
}

// made are the parts of a flow's cookie, by the key of that epoch.
func (s shape) made(k api.Key, kind int, f api.Flow, slot, epoch int) parts {
	tag := sip.Words(k, kind, f.Addr, f.Port, f.ToAddr, f.ToPort, slot, epoch)
	return parts{epoch: epoch, slot: s.slot.cut(slot ^ mask(k, kind, f, epoch)), tag: s.tag.cut(int(tag))}
}

// mask hides which slot a flow goes to. (64 is no slot, so no tag tells it.)
func mask(k api.Key, kind int, f api.Flow, epoch int) int {
	return int(sip.Words(k, kind, f.Addr, f.Port, f.ToAddr, f.ToPort, api.Slots, epoch))
}
