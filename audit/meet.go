package audit

import (
	"slices"

	"berth/api"
)

// held has two bits for each local: that it is set with a node bitmap (CellNodes, 1), that it is set with a pod bitmap (CellPods, 2). So what is set on several ways are the bits that all of them have.
type held []uint64

// localsPerWord is how many locals have their bits in one word.
const localsPerWord = 32

func newHeld(locals int) held { return make(held, (locals+localsPerWord-1)/localsPerWord) }

// bits are where a local's two bits stand: a word, and how far up in it.
func bits(local int) (word, shift int) { return local / localsPerWord, local % localsPerWord * 2 }

func (h held) set(local int, kind api.Cell) {
	word, shift := bits(local)
	h[word] = h[word]&^(3<<shift) | uint64(kind)<<shift
}

// kind is nothing where the local isn't set.
func (h held) kind(local int) api.Cell {
	word, shift := bits(local)
	return api.Cell(h[word] >> shift & 3)
}

// meeting is what the jumps to a place that isn't reached yet leave ahead of it.
type meeting struct {
	stack  []api.Cell
	lost   held // what some jump comes without: a scratch table, that begins empty
	unlike bool
}

// meetings are those of all places ahead of which the walk stands. What a meeting took is used again behind its place, so that no more is taken than there are jumps under way at a time.
type meetings struct {
	locals int        // how many
	open   []*meeting // by places
	spare  []*meeting
}

func newMeetings(p api.Program) meetings {
	return meetings{locals: p.Locals, open: make([]*meeting, len(p.Code))}
}

// arrive takes down what one more jump leaves ahead of a place.
func (m *meetings) arrive(place int, stack []api.Cell, locals held) {
	met := m.open[place]
	if met == nil {
		met = m.take()
		met.stack = append(met.stack, stack...)
		m.open[place] = met
	}
	if !slices.Equal(met.stack, stack) {
		met.unlike = true
	}
	for i, word := range locals {
		met.lost[i] |= ^word
	}
}

// join takes from the locals what a jump to the place comes without, and tells whether one leaves another stack than this.
func (m *meetings) join(place int, stack []api.Cell, locals held) bool {
	met := m.open[place]
	if met == nil {
		return false
	}
	unlike := met.unlike || !slices.Equal(met.stack, stack)
	for i, word := range met.lost {
		locals[i] &^= word
	}
	m.giveBack(met)
	m.open[place] = nil
	return unlike
}

// take is a meeting at which nobody has arrived.
func (m *meetings) take() *meeting {
	last := len(m.spare) - 1
	if last < 0 {
		return &meeting{lost: newHeld(m.locals)}
	}
	met := m.spare[last]
	m.spare = m.spare[:last]
	return met
}

func (m *meetings) giveBack(met *meeting) {
	clear(met.lost)
	met.stack, met.unlike = met.stack[:0], false
	m.spare = append(m.spare, met)
}
