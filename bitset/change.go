package bitset

import "berth/api"

// Add: puts a place in; whether that changed something.
func (s *Set) Add(i int) bool {
	if !s.inside(i) || s.Has(i) {
		return false
	}
	s.words[i/wordBits] |= 1 << (i % wordBits)
	return true
}

// Remove: takes a place out; whether that changed something.
func (s *Set) Remove(i int) bool {
	if !s.Has(i) {
		return false
	}
	s.words[i/wordBits] &^= 1 << (i % wordBits)
	return true
}

// Grow: a greater universe.
func (s *Set) Grow(n int) api.Errno {
	switch {
	case s == nil:
		return api.ErrNil
	case !validSize(n):
		return api.ErrSize
	case n < s.size:
		return api.ErrShrink
	}
	*s = *widened(s, n)
	return api.OK
}

// AndWith: And in place.
func (s *Set) AndWith(t *Set) {
	words, other := s.list(), t.list()
	both := min(len(words), len(other))
	for w := range both {
		words[w] &= other[w]
	}
	clear(words[both:])
}

// OrWith: Or in place.
func (s *Set) OrWith(t *Set) {
	words, other := s.list(), t.list()
	for w := range min(len(words), len(other)) {
		words[w] |= other[w]
	}
	if s != nil {
		// t may be larger and have members in the last word that s has no room for.
		s.cutTail()
	}
}

// AndNotWith: AndNot in place.
func (s *Set) AndNotWith(t *Set) {
	words, other := s.list(), t.list()
	for w := range min(len(words), len(other)) {
		words[w] &^= other[w]
	}
}
