// Package latt is layer 1, lattices of security levels: see shared/doc/01-latt.md.
package latt

import (
	"torchere/api"
)

// set is a set of levels: bit a stands for level a, so one word has room for all MaxLevels of them.
type set uint16

// rows holds one set for each level.
type rows [api.MaxLevels]set

// Lattice is levels and their order. Both directions are kept, so that joins and meets are found in the same way.
type Lattice struct {
	n    int
	up   rows // of each level those that it is below
	down rows // of each level those that are below it
}

// New returns the lattice of the levels from 0 to n - 1 whose order is the closure of the pairs.
func New(n int, below [][2]int) (*Lattice, api.Errno) {
	if n < 1 || n > api.MaxLevels {
		return nil, api.ErrArg
	}
	l := &Lattice{n: n}
	for _, p := range below {
		if !l.has(p[0]) || !l.has(p[1]) {
			return nil, api.ErrArg
		}
		l.up[p[0]] |= only(p[1])
	}
	l.closeUp()
	l.fillDown()
	if !l.ordered() || !l.bounded() {
		return nil, api.ErrForm
	}
	return l, api.OK
}

// Len returns how many levels there are.
func (l *Lattice) Len() int {
	if l == nil {
		return 0
	}
	return l.n
}

// Leq reports whether a is below b.
func (l *Lattice) Leq(a, b int) bool {
	return l.has(a) && l.has(b) && l.up[a]&only(b) != 0
}

// Join returns the least level that a and b are both below.
func (l *Lattice) Join(a, b int) int {
	if !l.has(a) || !l.has(b) {
		return -1
	}
	return covering(&l.up, l.up[a]&l.up[b])
}

// Meet returns the greatest level that is below both a and b.
func (l *Lattice) Meet(a, b int) int {
	if !l.has(a) || !l.has(b) {
		return -1
	}
	return covering(&l.down, l.down[a]&l.down[b])
}

// Bottom returns the level that is below all levels.
func (l *Lattice) Bottom() int {
	if l == nil {
		return -1
	}
	return covering(&l.up, l.all())
}

// Top returns the level that all levels are below.
func (l *Lattice) Top() int {
	if l == nil {
		return -1
	}
	return covering(&l.down, l.all())
}

// has reports whether a is a level; a nil lattice has none, so methods that ask here need no check of their own.
func (l *Lattice) has(a int) bool {
	return a >= 0 && a < l.Len()
}

// all returns the set of all levels.
func (l *Lattice) all() set {
	var s set
	for a := range l.n {
		s |= only(a)
	}
	return s
}

// closeUp makes up reflexive and transitive. One pass may miss what a later row gains, hence the way back.
func (l *Lattice) closeUp() {
	for a := range l.n {
		l.up[a] |= only(a)
	}
again:
	grew := false
	for a := range l.n {
		for b := range l.n {
			if l.Leq(a, b) && l.up[b]&^l.up[a] != 0 {
				l.up[a] |= l.up[b]
				grew = true
			}
		}
	}
	if grew {
		goto again
	}
}

// fillDown makes down the converse of up.
func (l *Lattice) fillDown() {
	for a := range l.n {
		for b := range l.n {
			if l.Leq(a, b) {
				l.down[b] |= only(a)
			}
		}
	}
}

// ordered reports whether no two different levels are below each other.
func (l *Lattice) ordered() bool {
	for a := range l.n {
		if l.up[a]&l.down[a] != only(a) {
			return false
		}
	}
	return true
}

// bounded reports whether any two levels have a least upper and a greatest lower bound.
func (l *Lattice) bounded() bool {
	for a := range l.n {
		for b := range a {
			if l.Join(a, b) < 0 || l.Meet(a, b) < 0 {
				return false
			}
		}
	}
	return true
}

// only returns the set of one level.
func only(a int) set {
	return 1 << a
}

// covering returns the level of s whose row holds all of s, or -1: the least one of s by up, the greatest by down.
func covering(r *rows, s set) int {
	for a := range api.MaxLevels {
		if s&only(a) != 0 && s&^r[a] == 0 {
			return a
		}
	}
	return -1
}
