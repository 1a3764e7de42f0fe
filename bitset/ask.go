package bitset

import (
	"iter"
	"math/bits"
)

// Size: how many places the universe has.
func (s *Set) Size() int {
	if s == nil {
		return 0
	}
	return s.size
}

// Has: is the place in it?
func (s *Set) Has(i int) bool {
	return s.inside(i) && s.words[i/wordBits]&(1<<(i%wordBits)) != 0
}

// Count: how many places are in it.
func (s *Set) Count() int { return countBits(s.list()) }

// Next: the lowest place from i on, or -1.
func (s *Set) Next(i int) int {
	i = max(i, 0)
	if !s.inside(i) {
		return -1
	}
	w := i / wordBits
	if rest := s.words[w] >> (i % wordBits); rest != 0 {
		return i + bits.TrailingZeros64(rest)
	}
	for w++; w < len(s.words); w++ {
		if s.words[w] != 0 {
			return w*wordBits + bits.TrailingZeros64(s.words[w])
		}
	}
	return -1
}

// Prev: the highest place up to i, or -1.
func (s *Set) Prev(i int) int {
	i = min(i, s.Size()-1)
	if i < 0 {
		return -1
	}
	w := i / wordBits
	if rest := s.words[w] << (wordBits - 1 - i%wordBits); rest != 0 {
		return i - bits.LeadingZeros64(rest)
	}
	for w--; w >= 0; w-- {
		if s.words[w] != 0 {
			return w*wordBits + bits.Len64(s.words[w]) - 1
		}
	}
	return -1
}

// Rank: how many places below i are in it.
func (s *Set) Rank(i int) int {
	if i <= 0 {
		return 0
	}
	if !s.inside(i) {
		return s.Count()
	}
	w := i / wordBits
	return countBits(s.words[:w]) + bits.OnesCount64(s.words[w]&below(i%wordBits))
}

// Select: the place with k places below it, or -1.
func (s *Set) Select(k int) int {
	if k < 0 {
		return -1
	}
	for w, rest := range s.list() {
		n := bits.OnesCount64(rest)
		if k >= n {
			k -= n
			continue
		}
		for range k {
			rest &= rest - 1
		}
		return w*wordBits + bits.TrailingZeros64(rest)
	}
	return -1
}

// Members: the places, rising.
func (s *Set) Members() []int {
	words := s.list()
	places := make([]int, 0, countBits(words))
	for w := range len(words) {
		rest := words[w]
		for range bits.OnesCount64(rest) {
			places = append(places, w*wordBits+bits.TrailingZeros64(rest))
			rest &= rest - 1
		}
	}
	return places
}

// Words: the bits.
func (s *Set) Words() []uint64 {
	words := make([]uint64, len(s.list()))
	copy(words, s.list())
	return words
}

// All: the places one by one, rising.
func (s *Set) All() iter.Seq[int] {
	// A copy, since the set may change ahead of the walk or under it.
	words := s.Words()
	return func(yield func(int) bool) {
		for w := range len(words) {
			rest := words[w]
			for range bits.OnesCount64(rest) {
				if !yield(w*wordBits + bits.TrailingZeros64(rest)) {
					return
				}
				rest &= rest - 1
			}
		}
	}
}

// Clone: a set of its own.
func (s *Set) Clone() *Set { return widened(s, 0) }

func countBits(words []uint64) int {
	n := 0
	for _, w := range words {
		n += bits.OnesCount64(w)
	}
	return n
}
