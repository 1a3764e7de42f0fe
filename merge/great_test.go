package merge_test

import (
	"fmt"
	"slices"
	"testing"

	"berth/api"
)

// chain nests parts in one another: by turns of the kinds, each with one of the twigs, ahead of the one that stands in it or behind it.
func chain(kids []twig, behind bool, kinds ...api.PlanKind) twig {
	out := kids[0]
	for i, kid := range kids[1:] {
		pair := []twig{kid, out}
		if behind {
			pair = []twig{out, kid}
		}
		out = of(kinds[i%len(kinds)], pair...)
	}
	return out
}

// spread are that many twigs, no two of the same thing, made by a function of their numbers.
func spread(n int, make func(i int) twig) []twig {
	var out []twig
	for i := range n {
		out = append(out, make(i))
	}
	return out
}

func keyed(i int) twig { return hasKey(fmt.Sprint("k", i)) }

// P1, P17.1 to P17.4: plans whose measure is 1000 or nearly so, flat, deep and full of values.
func TestGreatPlans(t *testing.T) {
	pairs := spread(199, func(i int) twig { return or(a, keyed(i), b, c) })
	for i, x := range []struct {
		p       api.Plan
		measure int
		parts   int
	}{
		{plan(and(many(999, a)...)), 1000, 1},
		{plan(and(spread(999, keyed)...)), 1000, 1000},
		{plan(or(append(spread(998, keyed), not(keyed(7)))...)), 1000, 1},
		{plan(and(spread(333, func(i int) twig { return not(cores(2 * i)) })...)), 667, 1},
		{plan(or(spread(499, func(i int) twig { return zone(fmt.Sprint(i % 300)) })...)), 999, 1},
		{plan(and(cores(upTo(498)...), not(cores(upTo(499)...)))), 1000, 1},
		{plan(and(coresFrom(0), not(cores(upTo(996)...)), yes)), 1000, 1},
		{plan(and(coresFrom(0), coresTo(994), not(cores(upTo(995)...)))), 999, 1},
		{plan(chain(many(500, a), false, api.PAnd, api.POr)), 999, 1},
		{plan(chain(spread(333, func(i int) twig { return zone(fmt.Sprint(i)) }), true, api.POr)), 998, 1},
		{plan(chain(spread(333, func(i int) twig { return not(cores(i)) }), false, api.PAnd)), 998, 1},
		{plan(and(pairs...)), 996, 996},
		{plan(and(append(pairs, or(c, a, b))...)), 1000, 4},
		{plan(chain(spread(66, func(i int) twig { return or(a, b, keyed(i%33), c, d) }), true, api.PAnd)), 461, 199},
		{plan(and(spread(499, func(int) twig { return near("a", 0) })...), many(500, yes)...), 1000, 1},
		{plan(or(spread(332, func(i int) twig { return near("a", i) })...), spread(332, func(i int) twig { return itHas("x", fmt.Sprint(i)) })...), 997, 333},
	} {
		if measure(x.p) != x.measure {
			t.Errorf("plan %d: its measure is %d", i, measure(x.p))
		}
		if got := check(t, x.p); len(got.Main) != x.parts {
			t.Errorf("plan %d: Main has %d parts", i, len(got.Main))
		}
		check(t, negation(x.p))
	}
}

// P1, P17.1: parts in one another, as deep as can be: of one kind, and of both by turns.
func TestDeepestPlans(t *testing.T) {
	kids := spread(500, keyed)
	for _, behind := range []bool{true, false} {
		stays := plan(chain(kids, behind, api.PAnd, api.POr))
		checkAgainst(t, stays, stays)
		checkAgainst(t, negation(stays), negation(stays))
	}
	flat := plan(and(kids...))
	checkAgainst(t, plan(chain(kids, true, api.PAnd)), flat)
	checkAgainst(t, negation(plan(chain(kids, true, api.PAnd))), negation(flat))
	slices.Reverse(kids)
	checkAgainst(t, plan(chain(kids, false, api.PAnd)), flat)
	wide := spread(142, func(i int) twig { return or(a, b, keyed(i), c, d) })
	checkAgainst(t, plan(chain(wide, true, api.PAnd)), plan(and(wide...)))
	checkAgainst(t, negation(plan(chain(wide, true, api.PAnd))), negation(plan(and(wide...))))
}

func negation(p api.Plan) api.Plan {
	p.Main = list(not(grown(p.Main)))
	return p
}
