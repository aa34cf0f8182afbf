package plane

import (
	"roundhouse/api"
	"roundhouse/wire"
)

// Where things stand in a packet.
const (
	headLen     = 16
	labelAt     = headLen + 4
	optsAt      = headLen + 8
	faultDataAt = headLen + 4
)

// way is a packet's bytes between one change and the next; the first error ends it.
type way struct {
	b  []byte
	no api.Errno
}

func (w *way) age() {
	if w.no == api.OK {
		w.b, w.no = wire.Age(w.b)
	}
}

func (w *way) nat(source bool, addr, port int) {
	if w.no == api.OK {
		w.b, w.no = wire.Nat(w.b, source, addr, port)
	}
}

func (w *way) write(at, n, v int) {
	if w.no == api.OK {
		w.b, w.no = wire.Write(w.b, at, n, v)
	}
}

// readdress gives a fault another To. As wire.Nat takes no faults, the head is that of a packet built anew; the body stays as it came, right or not.
func (w *way) readdress(addr int) {
	if w.no != api.OK {
		return
	}
	x, no := wire.Parse(w.b)
	if no != api.OK {
		w.no = no
		return
	}
	x.To = addr
	built, no := wire.Build(x)
	if no != api.OK {
		w.no = no
		return
	}
	w.b = append(built[:headLen:headLen], w.b[headLen:]...)
}

// end is the outcome, with the bytes.
func (w *way) end(o api.Outcome) api.Outcome {
	if w.no != api.OK {
		return drop(w.no)
	}
	o.Bytes = w.b
	return o
}
