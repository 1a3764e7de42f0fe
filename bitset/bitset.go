// Package bitset is layer 1: bitmaps over the places 0 .. n-1: see shared/doc/01-bitset.md.
package bitset

import "berth/api"

const wordBits = 64

// Set is a set of places of a universe. A nil *Set is an empty one, of universe 0.
//
// No bit of the last word stands for a place outside the universe: the calls that hold whole words against each other, or count their bits, rely on it.
type Set struct {
	size  int
	words []uint64
}

// New: the empty set of a universe of n places.
func New(n int) (*Set, api.Errno) {
	if !validSize(n) {
		return nil, api.ErrSize
	}
	return blank(n), api.OK
}

// From: the set of these places.
func From(n int, places []int) (*Set, api.Errno) {
	s, err := New(n)
	if err != api.OK {
		return nil, err
	}
	for _, i := range places {
		if !s.inside(i) {
			return nil, api.ErrPlace
		}
		s.Add(i)
	}
	return s, api.OK
}

// FromWords: the set whose bits are these words'.
func FromWords(n int, words []uint64) (*Set, api.Errno) {
	s, err := New(n)
	if err != api.OK {
		return nil, err
	}
	if len(words) != len(s.words) {
		return nil, api.ErrWords
	}
	copy(s.words, words)
	if s.cutTail() {
		return nil, api.ErrPlace
	}
	return s, api.OK
}

func validSize(n int) bool { return n >= 0 && n <= api.MaxUniverse }

// blank makes an empty set of a size that is known to be valid.
func blank(n int) *Set {
	return &Set{size: n, words: make([]uint64, (n+wordBits-1)/wordBits)}
}

// widened makes a copy of s whose universe has at least n places, n being a valid size.
func widened(s *Set, n int) *Set {
	c := blank(max(s.Size(), n))
	copy(c.words, s.list())
	return c
}

// list is the set's own words, not a copy: what is told to callers outside must not share them.
func (s *Set) list() []uint64 {
	if s == nil {
		return nil
	}
	return s.words
}

func (s *Set) inside(i int) bool { return i >= 0 && i < s.Size() }

// cutTail clears the last word's bits that lie outside the universe, and tells whether one was set.
func (s *Set) cutTail() bool {
	used := s.size % wordBits
	if used == 0 {
		return false
	}
	last := &s.words[len(s.words)-1]
	before := *last
	*last &= below(used)
	return *last != before
}

// below is a word with the bits under b set, b being less than wordBits.
func below(b int) uint64 { return 1<<b - 1 }
