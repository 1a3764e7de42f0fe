package share_test

import (
	"slices"
	"testing"

	"berth/api"
)

// P18.4: a DNot over each kind of part, once, twice, three times.
func TestNotOverEachKind(t *testing.T) {
	for _, x := range []struct {
		parts []api.DagPart
		w     twig
	}{
		{[]api.DagPart{node(api.DTrue)}, yes},
		{[]api.DagPart{node(api.DFalse)}, no},
		{[]api.DagPart{leaf(a)}, a},
		{[]api.DagPart{leaf(zone("x", "y"))}, zone("x", "y")},
		{[]api.DagPart{leaf(a), node(api.DAnd, 0, 0)}, and(a, a)},
		{[]api.DagPart{leaf(a), leaf(b), node(api.DOr, 1, 0)}, or(b, a)},
		{[]api.DagPart{leaf(a), leaf(b), node(api.DNot, 0), node(api.DOr, 1, 2), node(api.DTrue), node(api.DAnd, 3, 4, 0)}, and(or(b, not(a)), yes, a)},
	} {
		w := x.w
		for range 5 {
			gives(t, dag(x.parts...), plan(w))
			x.parts = append(x.parts, node(api.DNot, len(x.parts)-1))
			w = not(w)
		}
	}
}

// P18.4: a DNot in the midst of a dag turns about all that stands below it, and what stands beside it stays.
func TestNotWithin(t *testing.T) {
	both := []api.DagPart{leaf(a), leaf(b), node(api.DAnd, 0, 1), node(api.DNot, 2)}
	gives(t, dag(append(slices.Clone(both), node(api.DOr, 2, 3))...), plan(or(and(a, b), or(not(a), not(b)))))
	gives(t, dag(append(slices.Clone(both), node(api.DAnd, 3, 2, 3), node(api.DNot, 4))...), plan(or(and(a, b), or(not(a), not(b)), and(a, b))))
	gives(t, dag(leaf(a), node(api.DNot, 0), node(api.DOr, 0, 1), node(api.DNot, 2), node(api.DAnd, 3, 1, 2)), plan(and(and(not(a), a), not(a), or(a, not(a)))))
	gives(t, dag(node(api.DTrue), node(api.DFalse), node(api.DNot, 0), node(api.DNot, 1), node(api.DAnd, 0, 1, 2, 3), node(api.DNot, 4)), plan(or(no, yes, yes, no)))
}

// P18.4: parts that stand twice, and such as the Root doesn't reach, ahead of it and behind it.
func TestDoublesAndUnreached(t *testing.T) {
	gives(t, dag(leaf(a), leaf(a), node(api.DAnd, 0, 1)), plan(and(a, a)))
	gives(t, dag(leaf(a), node(api.DNot, 0), node(api.DNot, 0), node(api.DOr, 1, 2)), plan(or(not(a), not(a))))
	gives(t, rooted(0, leaf(a), leaf(b), node(api.DAnd, 0, 1)), plan(a))
	gives(t, rooted(1, leaf(a), leaf(b), node(api.DAnd, 0, 1)), plan(b))
	gives(t, rooted(2, leaf(c), leaf(a), node(api.DNot, 1), leaf(b), node(api.DOr, 0, 3)), plan(not(a)))
	gives(t, rooted(1, forPods(leaf(s)), leaf(a), leaf(near("z", 0)), forPods(node(api.DNot, 0))), plan(a))
	// what isn't reached may be as great as it likes
	great := doubling(a, 1000)
	great.Root = 3
	checkUnfold(t, great)
	great.Parts = append(great.Parts, leaf(b))
	great.Root = 1001
	gives(t, great, plan(b))
}

// P18.4: Sels has an entry for each place, in the order in which Main's literals first have it.
func TestSelectorsOfDags(t *testing.T) {
	pods := []api.DagPart{forPods(leaf(s)), forPods(leaf(u)), forPods(node(api.DOr, 0, 1)), forPods(node(api.DNot, 2))}
	with := func(parts ...api.DagPart) api.Dag { return dag(append(slices.Clone(pods), parts...)...) }
	gives(t, with(leaf(near("z", 3))), plan(near("z", 0), and(not(s), not(u))))
	gives(t, with(leaf(near("z", 2)), leaf(near("z", 0)), node(api.DAnd, 5, 4)), plan(and(near("z", 0), near("z", 1)), s, or(s, u)))
	gives(t, with(leaf(near("z", 2)), leaf(counted(0, 4)), node(api.DAnd, 4, 5, 4)), plan(and(near("z", 0), counted(1, 4), near("z", 0)), or(s, u), s))
	// the dag's order counts for nothing, Main's does: the part 5 is written down first
	gives(t, with(leaf(near("z", 1)), leaf(near("z", 0)), node(api.DNot, 5), node(api.DOr, 6, 4), node(api.DAnd, 7, 5)), plan(and(or(not(near("z", 0)), near("z", 1)), near("z", 0)), s, u))
	// reached from two literals, negated and not: one entry, unnegated
	gives(t, with(leaf(near("z", 3)), node(api.DNot, 4), leaf(counted(3, 1)), node(api.DOr, 5, 4, 6)), plan(or(not(near("z", 0)), near("z", 0), counted(0, 1)), and(not(s), not(u))))
	// parts that are alike in two places are two entries
	gives(t, dag(forPods(leaf(s)), forPods(leaf(s)), leaf(near("z", 1)), leaf(near("z", 0)), node(api.DAnd, 2, 3)), plan(and(near("z", 0), near("z", 1)), s, s))
	gives(t, dag(forPods(leaf(s)), forPods(node(api.DNot, 0)), forPods(node(api.DNot, 1)), leaf(near("z", 0)), leaf(near("z", 2)), node(api.DAnd, 3, 4)), plan(and(near("z", 0), near("z", 1)), s, s))
	// literals that are alike but for the place, and one that stands twice
	gives(t, with(leaf(near("z", 0)), leaf(near("z", 0)), node(api.DAnd, 4, 5)), plan(and(near("z", 0), near("z", 0)), s))
}

// P18.4: a selector that is a kid in several places is written down for each, in its entry too; DNot within it.
func TestSelectorsAreWrittenOut(t *testing.T) {
	parts := []api.DagPart{forPods(leaf(s)), forPods(node(api.DNot, 0)), forPods(node(api.DAnd, 0, 1)), forPods(node(api.DNot, 2)), forPods(node(api.DOr, 3, 2, 3)), forPods(node(api.DTrue)), forPods(node(api.DAnd, 4, 5)), leaf(counted(6, 1))}
	turned := or(not(s), s)
	gives(t, dag(parts...), plan(counted(0, 1), and(or(turned, and(s, not(s)), turned), yes)))
}

// P18.4: for each literal, both signs of it.
func TestLiteralsAreGiven(t *testing.T) {
	pods := []api.DagPart{forPods(leaf(s)), forPods(node(api.DFalse))}
	for _, w := range mainLits() {
		want, sels := w, []twig{}
		if sel := selectorOf(&want.part.Lit); sel != nil {
			sels = []twig{[]twig{s, no}[*sel]}
			*sel = 0
		}
		gives(t, dag(append(slices.Clone(pods), leaf(w))...), plan(want, sels...))
		gives(t, dag(append(slices.Clone(pods), leaf(w), node(api.DNot, 2))...), plan(not(want), sels...))
	}
	for _, w := range selectorLits() {
		gives(t, dag(forPods(leaf(w)), leaf(near("z", 0))), plan(near("z", 0), w))
		gives(t, dag(forPods(leaf(w)), forPods(node(api.DNot, 0)), leaf(near("z", 1))), plan(near("z", 0), not(w)))
	}
}
