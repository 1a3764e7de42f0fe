package share_test

import (
	"slices"
	"testing"

	"berth/api"
	"berth/share"
)

// P18.2: a selector is laid where its place is first met, ahead of the literal that has it.
func TestSelectorsAreLaidWhereTheyAreMet(t *testing.T) {
	expect(t, plan(and(a, near("z", 0), b), s), dag(leaf(a), forPods(leaf(s)), leaf(near("z", 1)), leaf(b), node(api.DAnd, 0, 2, 3)))
	expect(t, plan(and(near("z", 1), near("z", 0)), s, u), dag(forPods(leaf(u)), leaf(near("z", 0)), forPods(leaf(s)), leaf(near("z", 2)), node(api.DAnd, 1, 3)))
	expect(t, plan(or(near("z", 0), a, near("y", 0)), s), dag(forPods(leaf(s)), leaf(near("z", 0)), leaf(a), leaf(near("y", 0)), node(api.DOr, 1, 2, 3)))
	// each kind of part in a selector
	expect(t, plan(near("z", 0), yes), dag(forPods(node(api.DTrue)), leaf(near("z", 0))))
	expect(t, plan(near("z", 0), no), dag(forPods(node(api.DFalse)), leaf(near("z", 0))))
	expect(t, plan(near("z", 0), not(s)), dag(forPods(leaf(s)), forPods(node(api.DNot, 0)), leaf(near("z", 1))))
	expect(t, plan(not(near("z", 0)), or(s, and(u, not(s)))), dag(forPods(leaf(s)), forPods(leaf(u)), forPods(node(api.DNot, 0)), forPods(node(api.DAnd, 1, 2)), forPods(node(api.DOr, 0, 3)), leaf(near("z", 4)), node(api.DNot, 5)))
	for _, w := range selectorLits() {
		expect(t, plan(counted(0, 3), w), dag(forPods(leaf(w)), leaf(counted(0, 3))))
		expect(t, plan(not(counted(0, 3)), not(w)), dag(forPods(leaf(w)), forPods(node(api.DNot, 0)), leaf(counted(1, 3)), node(api.DNot, 2)))
	}
}

// P18.2, P18.3: one selector for several literals, of LitNear and of TermCount, negated and not.
func TestOneSelectorForSeveral(t *testing.T) {
	expect(t, plan(and(near("rack", 0), counted(0, 1), not(near("rack", 0)), not(counted(0, 1))), s), dag(forPods(leaf(s)), leaf(near("rack", 0)), leaf(counted(0, 1)), node(api.DNot, 1), node(api.DNot, 2), node(api.DAnd, 1, 2, 3, 4)))
	m := numTerm(api.OfPod, "m")
	counts := []twig{counted(0, 1), rel(countTerm("rack", 0), api.CmpGe, 1), beside(countTerm("rack", 0), api.CmpEq, m), near("rack", 0)}
	expect(t, plan(or(counts...), s), dag(forPods(leaf(s)), leaf(counts[0]), leaf(counts[1]), leaf(counts[2]), leaf(counts[3]), node(api.DOr, 1, 2, 3, 4)))
	// alike literals of alike selectors are one part
	expect(t, plan(or(near("z", 0), near("z", 1)), s, s), dag(forPods(leaf(s)), leaf(near("z", 0)), node(api.DOr, 1, 1)))
	expect(t, plan(or(near("z", 0), not(near("z", 1))), s, s), dag(forPods(leaf(s)), leaf(near("z", 0)), node(api.DNot, 1), node(api.DOr, 1, 2)))
	expect(t, plan(and(counted(1, 2), a, counted(0, 2)), s, s), dag(forPods(leaf(s)), leaf(counted(0, 2)), leaf(a), node(api.DAnd, 1, 2, 1)))
}

// P18.2, P18.3: selectors that are alike only in part share that part.
func TestSelectorsAlikeInPart(t *testing.T) {
	expect(t, plan(or(near("z", 0), near("z", 1)), s, not(s)), dag(forPods(leaf(s)), leaf(near("z", 0)), forPods(node(api.DNot, 0)), leaf(near("z", 2)), node(api.DOr, 1, 3)))
	expect(t, plan(or(near("z", 0), near("z", 1)), and(s, u), and(u, s)), dag(forPods(leaf(s)), forPods(leaf(u)), forPods(node(api.DAnd, 0, 1)), leaf(near("z", 2)), forPods(node(api.DAnd, 1, 0)), leaf(near("z", 4)), node(api.DOr, 3, 5)))
	// one is a part of the other, ahead of it or behind it
	expect(t, plan(or(near("z", 0), counted(1, 7)), or(and(s, u), v), and(s, u)), dag(forPods(leaf(s)), forPods(leaf(u)), forPods(node(api.DAnd, 0, 1)), forPods(leaf(v)), forPods(node(api.DOr, 2, 3)), leaf(near("z", 4)), leaf(counted(2, 7)), node(api.DOr, 5, 6)))
	expect(t, plan(or(near("z", 1), counted(0, 7)), or(and(s, u), v), and(s, u)), dag(forPods(leaf(s)), forPods(leaf(u)), forPods(node(api.DAnd, 0, 1)), leaf(near("z", 2)), forPods(leaf(v)), forPods(node(api.DOr, 2, 4)), leaf(counted(5, 7)), node(api.DOr, 3, 6)))
}

// arranged is the plan with its selectors in other places: to tells for each of them where it stands now, more than once if it stands there several times; by turns its literals take one or the other.
func arranged(p api.Plan, places []int) api.Plan {
	out := api.Plan{Main: slices.Clone(p.Main)}
	to := make([][]int, len(p.Sels))
	for now, old := range places {
		out.Sels = append(out.Sels, p.Sels[old])
		to[old] = append(to[old], now)
	}
	for i := range out.Main {
		if sel := selectorOf(&out.Main[i].Lit); sel != nil {
			*sel = to[*sel][i%len(to[*sel])]
		}
	}
	return out
}

// arrangements are all lists of up to so many places of the first n, each of those that must be there at least once.
func arrangements(n, longest int, must []int) [][]int {
	var out [][]int
	var grow func(places []int)
	grow = func(places []int) {
		if !slices.ContainsFunc(must, func(place int) bool { return !slices.Contains(places, place) }) {
			out = append(out, slices.Clone(places))
		}
		for place := 0; place < n && len(places) < longest; place++ {
			grow(append(places, place))
		}
	}
	grow(nil)
	return out
}

// P18.3: in one place of Sels or in several, in whichever order, with whichever unused ones: the dag is the same.
func TestSelectorsInEveryOrder(t *testing.T) {
	sels := []twig{and(s, not(u)), v, or(v, and(s, not(u))), yes}
	p := plan(or(near("z", 0), and(counted(1, 2), not(near("z", 1)), near("y", 0)), counted(2, 2), not(counted(0, 2))), sels...)
	want := check(t, p)
	all := arrangements(4, 5, []int{0, 1, 2})
	for _, places := range all {
		if got, e := share.Share(arranged(p, places)); e != api.OK || !sameDag(got, want) {
			t.Fatalf("the selectors %v: %s, %d, want %s", places, shortDag(got), e, shortDag(want))
		}
	}
	if len(all) < 300 {
		t.Errorf("only %d orders", len(all))
	}
	// another order of Main is another dag
	other := plan(or(near("y", 0), near("z", 0)), s)
	if got := check(t, plan(or(near("z", 0), near("y", 0)), s)); sameDag(got, check(t, other)) {
		t.Error(shortDag(got))
	}
}

// P18.3, P18.5: entries of Sels that no literal uses are nowhere, and Unfold doesn't bring them back.
func TestUnusedSelectors(t *testing.T) {
	expect(t, plan(a, s, yes, or(s, u)), dag(leaf(a)))
	expect(t, plan(yes, s), dag(node(api.DTrue)))
	expect(t, plan(near("z", 1), u, s, u), dag(forPods(leaf(s)), leaf(near("z", 0))))
	gives(t, check(t, plan(near("z", 2), u, u, s)), plan(near("z", 0), s))
	p := plan(and(near("z", 2), counted(0, 1), near("y", 2)), u, v, s)
	gives(t, check(t, p), plan(and(near("z", 0), counted(1, 1), near("y", 0)), s, u))
}
