package bitset

// And: the places of both.
func And(a, b *Set) *Set {
	c := widened(a, b.Size())
	c.AndWith(b)
	return c
}

// Or: the places of one or both.
func Or(a, b *Set) *Set {
	c := widened(a, b.Size())
	c.OrWith(b)
	return c
}

// AndNot: the places of a that aren't in b.
func AndNot(a, b *Set) *Set {
	c := widened(a, b.Size())
	c.AndNotWith(b)
	return c
}

// Xor: the places of just one.
func Xor(a, b *Set) *Set {
	c := widened(a, b.Size())
	for w, word := range b.list() {
		c.words[w] ^= word
	}
	return c
}

// Not: the places of live that aren't in a.
func Not(a, live *Set) *Set {
	c := live.Clone()
	c.AndNotWith(a)
	return c
}

// Subset: each place of a is in b.
func Subset(a, b *Set) bool {
	other := b.list()
	for w, rest := range a.list() {
		if w < len(other) {
			rest &^= other[w]
		}
		if rest != 0 {
			return false
		}
	}
	return true
}

// Meets: some place is in both.
func Meets(a, b *Set) bool {
	words, other := a.list(), b.list()
	for w := range min(len(words), len(other)) {
		if words[w]&other[w] != 0 {
			return true
		}
	}
	return false
}

// Equal: the same places.
func Equal(a, b *Set) bool { return Subset(a, b) && Subset(b, a) }
