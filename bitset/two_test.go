package bitset_test

import (
	"testing"

	"berth/api"
	"berth/bitset"
)

type twoCall struct {
	name string
	call func(a, b *bitset.Set) *bitset.Set
	keep func(inA, inB bool) bool
	size func(a, b int) int
}

func larger(a, b int) int { return max(a, b) }

func twoCalls() []twoCall {
	return []twoCall{
		{"And", bitset.And, func(a, b bool) bool { return a && b }, larger},
		{"Or", bitset.Or, func(a, b bool) bool { return a || b }, larger},
		{"AndNot", bitset.AndNot, func(a, b bool) bool { return a && !b }, larger},
		{"Xor", bitset.Xor, func(a, b bool) bool { return a != b }, larger},
		{"Not", bitset.Not, func(a, live bool) bool { return live && !a }, func(_, live int) int { return live }},
	}
}

func (c twoCall) want(a, b model) model {
	return a.pick(c.size(a.size, b.size), func(i int) bool { return c.keep(a.in[i], b.in[i]) })
}

// P1.8: all pairs of sizes and shapes, nil among them; the arguments stay as they are.
func TestTwoSets(t *testing.T) {
	for _, c := range twoCalls() {
		for _, a := range subjects(t, smallSizes...) {
			for _, b := range subjects(t, smallSizes...) {
				check(t, c.name+" of "+a.name+" and "+b.name, c.call(a.set, b.set), c.want(a.model, b.model))
				checkLike(t, c.name+": the first", a.set, a.model)
				checkLike(t, c.name+": the second", b.set, b.model)
			}
		}
	}
}

// P1.8: the greatest universe.
func TestTwoSetsGreatest(t *testing.T) {
	for _, c := range twoCalls() {
		a := newModel(api.MaxUniverse, 0, 63, 64, api.MaxUniverse-1)
		b := newModel(65, 0, 1, 64)
		s, u := from(t, a.size, a.members()...), from(t, b.size, b.members()...)
		check(t, c.name, c.call(s, u), c.want(a, b))
		check(t, c.name, c.call(u, s), c.want(b, a))
	}
}

// P1.8: the same set on both sides.
func TestTwoSetsSame(t *testing.T) {
	for _, c := range twoCalls() {
		for _, a := range subjects(t, smallSizes...) {
			got := c.call(a.set, a.set)
			check(t, c.name+" of "+a.name+" twice", got, c.want(a.model, a.model))
			checkApart(t, c.name+" of "+a.name+" twice", got, a)
		}
	}
}

// R6: what is answered shares no memory with the arguments, even where it has the same members as one of them.
func TestTwoSetsApart(t *testing.T) {
	for _, c := range twoCalls() {
		for _, a := range subjects(t, 0, 64, 70) {
			for _, b := range subjects(t, 0, 64, 129) {
				what := c.name + " of " + a.name + " and " + b.name
				checkApart(t, what, c.call(a.set, b.set), a)
				checkApart(t, what, c.call(a.set, b.set), b)
			}
		}
	}
}

// P1.9: Subset, Meets, Equal over all pairs.
func TestHoldAgainst(t *testing.T) {
	for _, a := range subjects(t, smallSizes...) {
		for _, b := range subjects(t, smallSizes...) {
			subset, back, meets := true, true, false
			for i := range max(a.size, b.size) {
				subset = subset && (!a.in[i] || b.in[i])
				back = back && (!b.in[i] || a.in[i])
				meets = meets || a.in[i] && b.in[i]
			}
			if got := bitset.Subset(a.set, b.set); got != subset {
				t.Errorf("Subset of %s and %s: %v", a.name, b.name, got)
			}
			if got := bitset.Meets(a.set, b.set); got != meets {
				t.Errorf("Meets of %s and %s: %v", a.name, b.name, got)
			}
			if got := bitset.Equal(a.set, b.set); got != (subset && back) {
				t.Errorf("Equal of %s and %s: %v", a.name, b.name, got)
			}
			checkLike(t, "the first", a.set, a.model)
			checkLike(t, "the second", b.set, b.model)
		}
	}
}

// P1.9: sets that differ by one place only, in each word.
func TestHoldAgainstByOne(t *testing.T) {
	for i := range 130 {
		one, none := from(t, 130, i), from(t, 130)
		if bitset.Subset(one, none) || !bitset.Subset(none, one) || bitset.Equal(one, none) || bitset.Meets(one, none) {
			t.Errorf("{%d} and nothing", i)
		}
		if bitset.Subset(one, nil) || !bitset.Subset(nil, one) || bitset.Equal(nil, one) || bitset.Meets(nil, one) {
			t.Errorf("{%d} and nil", i)
		}
		for _, n := range []int{i + 1, i + 64, api.MaxUniverse} {
			same := from(t, n, i)
			if !bitset.Equal(one, same) || !bitset.Subset(one, same) || !bitset.Subset(same, one) || !bitset.Meets(one, same) {
				t.Errorf("{%d} of 130 and of %d", i, n)
			}
		}
	}
	if !bitset.Equal(nil, nil) || !bitset.Subset(nil, nil) || bitset.Meets(nil, nil) {
		t.Error("nil and nil")
	}
}

// Example 3 of the chapter.
func TestTwoSetsExample(t *testing.T) {
	a, b := from(t, 3, 0, 2), from(t, 5, 2, 4)
	check(t, "And", bitset.And(a, b), newModel(5, 2))
	check(t, "Or", bitset.Or(a, b), newModel(5, 0, 2, 4))
	check(t, "AndNot", bitset.AndNot(a, b), newModel(5, 0))
	check(t, "Xor", bitset.Xor(a, b), newModel(5, 0, 4))
	check(t, "Not(a, b)", bitset.Not(a, b), newModel(5, 4))
	check(t, "Not(b, a)", bitset.Not(b, a), newModel(3, 0))
}
