package yard

import (
	"roundhouse/api"
	"roundhouse/head"
	"roundhouse/plane"
	"roundhouse/pool"
)

// down is the version that a unit tells that has none.
const down = -1

// unit is a plane, and what the head is told of it.
type unit struct {
	name  int
	boot  int
	pool  api.Pool
	plane *plane.Plane
}

func newUnit(name int) *unit { return &unit{name: name, plane: plane.New()} }

func (u *unit) crash() {
	u.boot++
	u.pool = api.Pool{}
	u.plane.Crash()
}

// read takes in a note of the head, and answers it.
func (u *unit) read(n head.Note) head.Note {
	// What was sent to an earlier boot speaks of a unit that had what this one has forgotten.
	if n.Boot == u.boot {
		u.follow(n)
	}
	return head.Note{Unit: u.name, Boot: u.boot, Version: u.version(), Ack: true}
}

// follow goes on to a note's version, if that leads on from the unit's own.
func (u *unit) follow(n head.Note) {
	own := u.version()
	switch {
	case n.Whole && own < n.P.Version:
		u.load(n.P)
	case !n.Whole && own != down && n.Version == own+1:
		if p, no := pool.Apply(u.pool, n.E); no == api.OK {
			u.load(p)
		}
	}
}

func (u *unit) load(p api.Pool) {
	u.pool = p
	u.plane.Load(p)
}

func (u *unit) version() int {
	if v, up := u.plane.Version(); up {
		return v
	}
	return down
}
