// Package dice is layer 1: see shared/doc/01-dice.md.
package dice

import (
	"slices"

	"lethe/api"
)

// beyond is so far up that a script's own small numbers never meet the draws behind its list.
const beyond uint64 = 1 << 40

// Dice gives draws: those of a list, and ever new ones behind it.
type Dice struct {
	list  []uint64
	taken int
}

// New takes a list.
func New(list []uint64) (*Dice, api.Errno) {
	if len(list) > api.MaxDraws {
		return nil, api.ErrLong
	}
	return &Dice{list: copied(list)}, api.OK
}

// Next is the next draw; Taken how many were given.
func (d *Dice) Next() uint64 {
	place := d.taken
	d.taken++
	if place < len(d.list) {
		return d.list[place]
	}
	return beyond + uint64(place)
}

func (d *Dice) Taken() int { return d.taken }

// Copy is another one, as far on.
func (d *Dice) Copy() *Dice {
	return &Dice{list: copied(d.list), taken: d.taken}
}

// Fresh tells whether no draw ever comes twice.
func Fresh(list []uint64) bool {
	// Draws behind the list are unlike by themselves, and begin here: what stays below meets none of them.
	behind := beyond + uint64(len(list))
	rising := copied(list)
	slices.Sort(rising)
	for i, n := range rising {
		if n >= behind || i > 0 && n == rising[i-1] {
			return false
		}
	}
	return true
}

// copied keeps the caller's list out of reach, its spare room too.
func copied(list []uint64) []uint64 {
	own := make([]uint64, len(list))
	copy(own, list)
	return own
}
