package bitset_test

import (
	"math"
	"math/rand/v2"
	"slices"
	"testing"

	"berth/api"
	"berth/bitset"
)

// P1.5: Add and Remove, and what they answer.
func TestAddRemove(t *testing.T) {
	for _, n := range smallSizes {
		s, m := from(t, n), newModel(n)
		for i := range n {
			if !s.Add(i) || s.Add(i) {
				t.Errorf("size %d: Add(%d) twice: not true, then false", n, i)
			}
			m.in[i] = true
			check(t, "added", s, m)
		}
		for i := range n {
			if !s.Remove(i) || s.Remove(i) {
				t.Errorf("size %d: Remove(%d) twice: not true, then false", n, i)
			}
			delete(m.in, i)
			check(t, "removed", s, m)
		}
	}
}

// P1.5: outside of the universe.
func TestAddRemoveOutside(t *testing.T) {
	for _, x := range subjects(t, append(slices.Clone(smallSizes), api.MaxUniverse)...) {
		for _, i := range []int{math.MinInt, -64, -1, x.size, x.size + 1, x.size + 64, api.MaxUniverse, math.MaxInt} {
			if x.set.Add(i) || x.set.Remove(i) {
				t.Errorf("%s: Add or Remove(%d) is true", x.name, i)
			}
		}
		checkLike(t, x.name, x.set, x.model)
	}
}

// P1.5: a long row of changes, held against the model.
func TestAddRemoveRow(t *testing.T) {
	r := rand.New(rand.NewPCG(5, 5))
	s, m := from(t, 130), newModel(130)
	for range 5000 {
		i := r.IntN(140) - 5
		inside := i >= 0 && i < 130
		if r.IntN(2) == 0 {
			if got := s.Add(i); got != (inside && !m.in[i]) {
				t.Fatalf("Add(%d): %v", i, got)
			}
			if inside {
				m.in[i] = true
			}
		} else {
			if got := s.Remove(i); got != m.in[i] {
				t.Fatalf("Remove(%d): %v", i, got)
			}
			delete(m.in, i)
		}
	}
	check(t, "after the row", s, m)
}

// P1.6: Grow, from each size to each.
func TestGrow(t *testing.T) {
	sizes := append(slices.Clone(smallSizes), api.MaxUniverse-1, api.MaxUniverse)
	for _, n := range sizes {
		for _, x := range subjects(t, smallSizes...)[1:] {
			err := x.set.Grow(n)
			if n < x.size {
				if err != api.ErrShrink {
					t.Errorf("%s: Grow(%d): %d", x.name, n, err)
				}
				check(t, x.name, x.set, x.model)
				continue
			}
			if err != api.OK {
				t.Errorf("%s: Grow(%d): %d", x.name, n, err)
			}
			check(t, x.name, x.set, newModel(n, x.members()...))
			if n > x.size && (x.set.Has(x.size) || !x.set.Add(x.size) || !x.set.Has(x.size)) {
				t.Errorf("%s: grown to %d: the place %d", x.name, n, x.size)
			}
		}
	}
}

// P1.6: the errors, and which one comes first. A refused Grow changes nothing.
func TestGrowRefused(t *testing.T) {
	s := from(t, 70, 3, 69)
	for _, n := range wrongSizes {
		if err := s.Grow(n); err != api.ErrSize {
			t.Errorf("Grow(%d): %d", n, err)
		}
	}
	for _, n := range []int{0, 1, 64, 69} {
		if err := s.Grow(n); err != api.ErrShrink {
			t.Errorf("Grow(%d): %d", n, err)
		}
	}
	check(t, "after refusals", s, newModel(70, 3, 69))
	var none *bitset.Set
	for _, n := range append([]int{0, 1, 70}, wrongSizes...) {
		if err := none.Grow(n); err != api.ErrNil {
			t.Errorf("Grow(%d) of nil: %d", n, err)
		}
	}
}

// P1.6: a set that has grown shares nothing with its clone of before.
func TestGrowApart(t *testing.T) {
	s := from(t, 64, 1)
	c := s.Clone()
	s.Grow(65)
	s.Add(0)
	c.Add(2)
	check(t, "grown", s, newModel(65, 0, 1))
	check(t, "clone", c, newModel(64, 1, 2))
}

type inPlace struct {
	name string
	call func(s, t *bitset.Set)
	keep func(inS, inT bool) bool
}

func inPlaceCalls() []inPlace {
	return []inPlace{
		{"AndWith", (*bitset.Set).AndWith, func(a, b bool) bool { return a && b }},
		{"OrWith", (*bitset.Set).OrWith, func(a, b bool) bool { return a || b }},
		{"AndNotWith", (*bitset.Set).AndNotWith, func(a, b bool) bool { return a && !b }},
	}
}

// P1.7: AndWith, OrWith, AndNotWith over all pairs of sizes; the size of s stays, t isn't changed.
func TestWith(t *testing.T) {
	for _, c := range inPlaceCalls() {
		for _, x := range subjects(t, smallSizes...) {
			for _, y := range subjects(t, smallSizes...) {
				s := x.set
				if s != nil {
					s = s.Clone()
				}
				c.call(s, y.set)
				want := x.pick(x.size, func(i int) bool { return c.keep(x.in[i], y.in[i]) })
				checkLike(t, c.name+": "+x.name+" with "+y.name, s, want)
				checkLike(t, c.name+": the argument", y.set, y.model)
				if s != nil {
					// A bit that was kept outside of the universe would come to light now.
					s.Grow(300)
					check(t, c.name+", grown: "+x.name+" with "+y.name, s, newModel(300, want.members()...))
				}
			}
		}
	}
}

// P1.7: s with itself.
func TestWithItself(t *testing.T) {
	for _, c := range inPlaceCalls() {
		for _, x := range subjects(t, smallSizes...) {
			c.call(x.set, x.set)
			want := x.pick(x.size, func(i int) bool { return c.keep(x.in[i], x.in[i]) })
			checkLike(t, c.name+" itself: "+x.name, x.set, want)
		}
	}
}

// P1.7, R6: s keeps nothing of t.
func TestWithApart(t *testing.T) {
	for _, c := range inPlaceCalls() {
		s, u := from(t, 70, 1, 65), from(t, 70, 1, 2)
		c.call(s, u)
		before := s.Members()
		flip(u)
		if !slices.Equal(s.Members(), before) {
			t.Errorf("%s: %v became %v", c.name, before, s.Members())
		}
		flip(s)
		check(t, c.name, u, newModel(70).pick(70, func(i int) bool { return i != 1 && i != 2 }))
	}
}

// Example 4 of the chapter.
func TestChangeExample(t *testing.T) {
	s := from(t, 3, 0)
	s.OrWith(from(t, 9, 2, 8))
	check(t, "OrWith", s, newModel(3, 0, 2))
	if err := s.Grow(2); err != api.ErrShrink {
		t.Errorf("Grow(2): %d", err)
	}
	if err := s.Grow(70000); err != api.ErrSize {
		t.Errorf("Grow(70000): %d", err)
	}
	if err := s.Grow(9); err != api.OK {
		t.Errorf("Grow(9): %d", err)
	}
	check(t, "Grow", s, newModel(9, 0, 2))
	s.OrWith(from(t, 9, 2, 8))
	check(t, "OrWith", s, newModel(9, 0, 2, 8))
}

// A nil set: read as an empty one of size 0, changed by nothing.
func TestNil(t *testing.T) {
	var none *bitset.Set
	for _, i := range anyInts(0) {
		if none.Has(i) || none.Add(i) || none.Remove(i) || none.Next(i) != -1 || none.Prev(i) != -1 || none.Rank(i) != 0 || none.Select(i) != -1 {
			t.Errorf("asked of nil at %d", i)
		}
	}
	if none.Size() != 0 || none.Count() != 0 || len(none.Members()) != 0 || len(none.Words()) != 0 {
		t.Error("nil isn't as an empty set")
	}
	for i := range none.All() {
		t.Errorf("All of nil gives %d", i)
	}
	check(t, "Clone", none.Clone(), newModel(0))
	for _, c := range inPlaceCalls() {
		c.call(none, nil)
		c.call(none, from(t, 70, 1, 65))
		s := from(t, 70, 1, 65)
		c.call(s, none)
		check(t, c.name+" nil", s, newModel(70).pick(70, func(i int) bool { return c.keep(i == 1 || i == 65, false) }))
	}
}
