package share_test

import (
	"fmt"
	"math/big"
	"slices"
	"strings"
	"testing"

	"berth/api"
	"berth/share"
)

// P18.1: MaxDag parts and one more, for nodes and for pods.
func TestMostParts(t *testing.T) {
	for _, n := range []int{1, 2, 1999, 2000, 2001, 1 << 15} {
		all := slices.Repeat([]api.DagPart{node(api.DTrue)}, n)
		expectValid(t, dag(all...), n <= 2000)
		pods := append(slices.Repeat([]api.DagPart{forPods(leaf(s))}, min(n-1, 900)), all[min(n-1, 900):]...)
		expectValid(t, dag(pods...), n <= 2000)
		nots := []api.DagPart{leaf(a)}
		for len(nots) < n {
			nots = append(nots, node(api.DNot, len(nots)-1))
		}
		expectValid(t, dag(nots...), n <= 2000)
		if n > 2000 {
			refused(t, dag(nots...), api.ErrDag)
			continue
		}
		want := plan(a)
		want.Main[0].Neg = n%2 == 0
		gives(t, dag(nots...), want)
	}
}

// P18.1: MaxDag kids in all and one more: in one part, in many, in two places.
func TestMostKids(t *testing.T) {
	for _, more := range []int{0, 1} {
		pairs := []api.DagPart{leaf(a), node(api.DNot, 0)}
		for range 999 {
			pairs = append(pairs, node(api.DAnd, 0, 1))
		}
		last := node(api.DNot, 0)
		if more > 0 {
			last = node(api.DOr, 0, 1)
		}
		for _, x := range []api.Dag{
			dag(leaf(a), node(api.DAnd, make([]int, 2000+more)...)),
			dag(leaf(a), node(api.DAnd, make([]int, 1500)...), node(api.DOr, make([]int, 500+more)...)),
			rooted(0, leaf(a), forPods(leaf(s)), forPods(node(api.DAnd, slices.Repeat([]int{1}, 1000)...)), node(api.DAnd, make([]int, 1000+more)...)),
			dag(append(pairs, last)...),
		} {
			expectValid(t, x, more == 0)
			if more > 0 {
				refused(t, x, api.ErrDag)
			}
		}
	}
	if _, e := unfold(t, dag(leaf(a), node(api.DAnd, make([]int, 2000)...))); e != api.ErrUnfold {
		t.Error(e)
	}
}

// P18.1: MaxParts elements of Texts and Nums and one more: in one literal, in several, of parts that aren't reached.
func TestMostElements(t *testing.T) {
	name := texts(nameTerm(api.OfIt), words(500)...)
	for _, more := range []int{-2, -1, 0, 1, 2} {
		for _, x := range []api.Dag{
			dag(leaf(cores(upTo(1000 + more)...))),
			dag(leaf(zone(words(1000 + more)...))),
			dag(leaf(a), leaf(cores(upTo(400)...)), leaf(zone(words(600+more)...)), node(api.DAnd, 0, 1)),
			dag(forPods(leaf(name)), leaf(cores(upTo(500+more)...))),
			dag(forPods(leaf(name)), leaf(counted(0, upTo(500+more)...))),
			dag(append(spreadParts(1000+more, func(i int) api.DagPart { return leaf(cores(i)) }), leaf(a))...),
		} {
			expectValid(t, x, more <= 0)
			if more <= 0 {
				unfold(t, x)
			} else {
				refused(t, x, api.ErrDag)
			}
		}
	}
	// one literal with all elements: too much for a plan, but not for a dag
	refused(t, dag(leaf(cores(upTo(1000)...))), api.ErrUnfold)
	gives(t, dag(leaf(cores(upTo(999)...))), plan(cores(upTo(999)...)))
	gives(t, rooted(0, leaf(a), leaf(cores(upTo(1000)...))), plan(a))
}

func spreadParts(n int, make func(i int) api.DagPart) []api.DagPart {
	var out []api.DagPart
	for i := range n {
		out = append(out, make(i))
	}
	return out
}

// P18.1: a fault anywhere in a set of all lengths is seen, however long the set is.
func TestFaultsInLongSets(t *testing.T) {
	long := strings.Repeat("x", 128)
	for _, n := range []int{1, 2, 3, 4, 5, 499, 500, 501, 502, 996, 997, 998, 999, 1000} {
		expectValid(t, dag(leaf(cores(upTo(n)...))), true)
		expectValid(t, rooted(0, leaf(a), forPods(leaf(texts(nameTerm(api.OfIt), words(n)...)))), true)
		places := []int{0, 1, n/2 - 2, n/2 - 1, n / 2, n/2 + 1, n/2 + 2, n - 2, n - 1}
		for _, at := range places {
			if at < 0 || at >= n {
				continue
			}
			far, tooLong := upTo(n), words(n)
			far[at], tooLong[at] = most+1, long
			expectValid(t, dag(leaf(cores(far...))), false)
			expectValid(t, dag(leaf(zone(tooLong...))), false)
			if at == 0 {
				continue
			}
			twice, fall := upTo(n), words(n)
			twice[at] = twice[at-1]
			fall[at], fall[at-1] = fall[at-1], fall[at]
			expectValid(t, dag(leaf(cores(twice...))), false)
			expectValid(t, dag(leaf(zone(fall...))), false)
		}
	}
	both := leaf(cores(upTo(500)...))
	both.Lit.Texts = words(500)
	expectValid(t, dag(both), false)
}

// P18.4: dags whose plans have the measure 1000 and 1001: by parts, by elements, by selectors, by all of them.
func TestMostMeasure(t *testing.T) {
	kids := func(n int, place int) []int { return slices.Repeat([]int{place}, n) }
	seven := texts(nameTerm(api.OfIt), words(7)...)
	for _, more := range []int{0, 1} {
		for i, x := range []api.Dag{
			dag(leaf(a), node(api.DAnd, make([]int, 999+more)...)),
			dag(node(api.DFalse), node(api.DNot, 0), node(api.DOr, kids(999+more, 1)...)),
			dag(leaf(cores(upTo(999+more)...)), node(api.DNot, 0)),
			dag(leaf(zone("a", "b")), leaf(a), node(api.DOr, append(kids(333, 0), kids(more, 1)...)...)),
			dag(leaf(a), node(api.DAnd, 0, 0, 0), node(api.DAnd, append(kids(249, 1), kids(3+more, 0)...)...)),
			// selectors: one entry, however many literals have it
			dag(forPods(leaf(s)), leaf(near("z", 0)), leaf(near("y", 0)), node(api.DAnd, append(kids(497+more, 1), kids(500, 2)...)...)),
			dag(forPods(leaf(seven)), forPods(node(api.DAnd, kids(100, 0)...)), leaf(near("z", 1)), node(api.DOr, kids(198+more, 2)...)),
			// two entries, one of them a part of the other; two that are alike
			dag(forPods(leaf(seven)), forPods(node(api.DAnd, kids(100, 0)...)), leaf(near("z", 1)), leaf(near("z", 0)), node(api.DOr, append(kids(189+more, 2), 3)...)),
			dag(forPods(leaf(seven)), forPods(leaf(seven)), leaf(near("z", 0)), leaf(near("z", 1)), node(api.DOr, append(kids(982+more, 2), 3)...)),
			dag(forPods(leaf(v)), forPods(node(api.DNot, 0)), forPods(node(api.DOr, kids(500, 1)...)), leaf(counted(2, upTo(498+more)...))),
		} {
			p, e := unfold(t, x)
			switch n := unfoldedMeasure(x); {
			case n.Cmp(big.NewInt(int64(1000+more))) != 0:
				t.Errorf("dag %d: the measure is %v", i, n)
			case more > 0:
				refused(t, x, api.ErrUnfold)
			case e != api.OK || measure(p) != 1000:
				t.Errorf("dag %d: %d, a plan of the measure %d", i, e, measure(p))
			}
		}
	}
	refused(t, dag(leaf(cores(upTo(499)...)), node(api.DAnd, 0, 0)), api.ErrUnfold)
	checkUnfold(t, dag(leaf(cores(upTo(498)...)), leaf(a), node(api.DAnd, 0, 0)))
}

// asSelector is a dag all of whose parts stand for pods.
func asSelector(d api.Dag) api.Dag {
	for i := range d.Parts {
		d.Parts[i].Pods = true
	}
	return d
}

// P18.4: the selectors alone are too great; or one that only a literal that isn't reached has.
func TestGreatSelectors(t *testing.T) {
	parts := asSelector(doubling(s, 9)).Parts
	at := len(parts)
	great := append(slices.Clone(parts), leaf(near("z", at-1)), leaf(near("z", at-2)), leaf(near("z", 0)), node(api.DOr, at+1, at+2), node(api.DOr, at, at+2))
	refused(t, rooted(at, great...), api.ErrUnfold)
	refused(t, rooted(at+4, great...), api.ErrUnfold)
	checkUnfold(t, rooted(at+1, great...))
	checkUnfold(t, rooted(at+2, great...))
	checkUnfold(t, rooted(at+3, great...))
	// two that fit one by one, but not together
	two := append(slices.Clone(parts), leaf(near("z", at-2)), leaf(near("z", at-3)), leaf(counted(at-2, 5)), node(api.DOr, at, at+1), node(api.DOr, at, at+2))
	refused(t, rooted(at+3, two...), api.ErrUnfold)
	checkUnfold(t, rooted(at+4, two...))
}

// P1, P18.4: dags whose unfolding would be far greater than any list can be.
func TestEndlessUnfoldings(t *testing.T) {
	for _, ands := range []int{10, 62, 63, 64, 65, 100, 999} {
		x := doubling(a, ands)
		expectValid(t, x, true)
		refused(t, x, api.ErrUnfold)
		if got, e := unfold(t, x); e != api.ErrUnfold {
			t.Error(short(got), e)
		}
		x = asSelector(doubling(s, ands))
		x.Parts = append(x.Parts, leaf(near("z", x.Root)))
		x.Root++
		expectValid(t, x, true)
		refused(t, x, api.ErrUnfold)
	}
	// as wide as can be, by turns with negations
	var parts []api.DagPart
	parts = append(parts, leaf(a))
	for range 30 {
		at := len(parts) - 1
		parts = append(parts, node(api.DOr, slices.Repeat([]int{at}, 64)...), node(api.DNot, at+1))
	}
	expectValid(t, dag(parts...), true)
	refused(t, dag(parts...), api.ErrUnfold)
}

// P1, P18.4: a long row of DNot below many kids: it counts nothing.
func TestManyNots(t *testing.T) {
	parts := []api.DagPart{leaf(a)}
	for len(parts) < 1000 {
		parts = append(parts, node(api.DNot, len(parts)-1))
	}
	parts = append(parts, node(api.DAnd, slices.Repeat([]int{999}, 999)...))
	gives(t, dag(parts...), plan(and(many(999, not(a))...)))
	parts = append(parts, node(api.DNot, 1000))
	gives(t, dag(parts...), plan(or(many(999, a)...)))
}

// P18.2 to P18.6: plans whose measure is 1000 or nearly so, flat, deep, full of values, full of selectors.
func TestGreatPlans(t *testing.T) {
	block := or(a, not(b), c)
	for i, x := range []struct {
		p     api.Plan
		parts int
	}{
		{plan(and(many(999, a)...)), 2},
		{plan(and(many(999, not(a))...)), 3},
		{plan(and(spread(999, keyed)...)), 1000},
		{plan(and(spread(999, func(i int) twig { return not(keyed(i)) })...)), 1999},
		{plan(and(spread(333, func(i int) twig { return not(cores(i)) })...)), 667},
		{plan(or(spread(499, func(i int) twig { return zone(fmt.Sprint(i % 100)) })...)), 101},
		{plan(cores(upTo(999)...)), 1},
		{plan(not(zone(words(999)...))), 2},
		{plan(chain(many(500, a), false, api.PAnd, api.POr)), 500},
		{plan(chain(spread(500, keyed), true, api.PAnd, api.POr)), 999},
		{plan(chain(spread(500, func(i int) twig { return not(keyed(i)) }), true, api.PAnd, api.POr)), 1499},
		{plan(and(many(199, block)...)), 6},
		{plan(or(spread(199, func(i int) twig { return and(a, keyed(i), b, c) })...)), 402},
		{plan(and(many(499, near("z", 0))...), many(500, yes)...), 3},
		{plan(and(spread(499, func(i int) twig { return near("z", i) })...), many(500, yes)...), 3},
		{plan(and(spread(333, func(i int) twig { return near("z", i) })...), spread(333, func(i int) twig { return itHas("x", fmt.Sprint(i)) })...), 667},
		{plan(near("z", 0), and(spread(998, func(i int) twig { return inKeys(textTerm(fmt.Sprint(i)), api.OfIt) })...)), 1000},
		{plan(near("z", 0), chain(spread(499, func(i int) twig { return not(inKeys(textTerm(fmt.Sprint(i)), api.OfIt)) }), false, api.POr, api.PAnd)), 1497},
	} {
		if got := check(t, x.p); len(got.Parts) != x.parts || measure(x.p) > 1000 {
			t.Errorf("plan %d: %d parts, its measure %d", i, len(got.Parts), measure(x.p))
		}
		negated := x.p
		negated.Main = list(not(grown(x.p.Main)))
		check(t, negated)
	}
}

// P1: arguments that are far too great.
func TestGreatArguments(t *testing.T) {
	big := make([]int, 1<<20)
	for i, p := range []api.Plan{
		{Main: make([]api.PlanPart, 1<<17)},
		{Sels: make([][]api.PlanPart, 1<<17)},
		{Main: []api.PlanPart{{Kind: api.PAnd, Kids: big}}},
		plan(tol(strings.Repeat("x", 1<<20))), plan(zone(make([]string, 1<<20)...)), plan(cores(upTo(1 << 20)...)),
	} {
		if got, e := share.Share(p); e != api.ErrPlan || got.Parts != nil || got.Root != 0 {
			t.Errorf("plan %d: %d", i, e)
		}
	}
	text := strings.Repeat("x", 1<<20)
	for _, x := range []api.Dag{
		{Parts: make([]api.DagPart, 1<<17)}, dag(node(api.DTrue), node(api.DAnd, big...)), dag(slices.Repeat([]api.DagPart{node(api.DTrue), node(api.DAnd, big...)}, 900)...),
		dag(leaf(tol(text))), dag(leaf(zone(make([]string, 1<<20)...))), dag(leaf(cores(upTo(1 << 20)...))), dag(leaf(zone(slices.Repeat([]string{text}, 1000)...))),
		dag(api.DagPart{Kind: api.DTrue, Lit: api.Lit{Texts: slices.Repeat([]string{text}, 1000)}}),
	} {
		if share.Valid(x) {
			t.Error("a dag that is too great is taken")
		}
		if got, e := share.Unfold(x); e != api.ErrDag || got.Main != nil || got.Sels != nil {
			t.Error(e)
		}
	}
}
