package norm_test

import (
	"fmt"
	"strings"
	"testing"

	"berth/api"
	"berth/norm"
	"berth/show"
)

// P1, P16.2, P16.4: the deepest and the largest trees that layers 13 and 14 take.
func TestGreatTrees(t *testing.T) {
	deepest, within := equal(name(node), text("a")), equal(name(it), text("p"))
	for range 15 {
		deepest = or(equal(name(pod), text("p")), and(or(no, and(deepest, yes)), apart("z", yes)))
	}
	for range 14 {
		within = or(no, and(or(equal(name(pod), text("p")), and(within, yes)), yes))
	}
	var elements []twig
	for i := range 64 {
		elements = append(elements, text(fmt.Sprint(64-i)))
	}
	for _, x := range []struct {
		tree twig
		main int
		sels int
	}{
		{deepest, 61, 15},
		{near("host", within), 1, 1},
		{or(many(999, no)...), 1, 0},
		{and(many(999, yes)...), 1, 0},
		{and(many(499, tolerated("NoExecute"))...), 500, 0},
		{or(many(249, equal(label(node, "zone"), text("1")))...), 250, 0},
		{not(or(many(499, apart("zone", yes))...)), 500, 499},
		{and(many(249, asked(count("zone", no)))...), 250, 249},
		{and(many(14, notin(label(node, "zone"), set(elements...)))...), 15, 0},
		{near("zone", and(many(332, equal(num(1), num(1)))...)), 1, 1},
		{near("zone", and(many(332, equal(name(it), text("p")))...)), 1, 1},
	} {
		tree := list(x.tree)
		if err := show.Valid(tree); err != nil {
			t.Fatalf("%s: %v", toldTree(tree), err)
		}
		if p, e := check(t, tree, api.OfNode); e != api.OK || len(p.Main) != x.main || len(p.Sels) != x.sels {
			t.Errorf("%s: %d parts, %d selectors, %d", toldTree(tree), len(p.Main), len(p.Sels), e)
		}
	}
}

// P16.2: the measure of a plan never goes above the number of the tree's parts, at its most too.
func TestGreatestMeasure(t *testing.T) {
	w := and(many(999, tolerated("NoExecute"))...)
	if p, e := check(t, list(w), api.OfNode); e != api.OK || measure(p) != 1000 {
		t.Errorf("%d, %d", measure(p), e)
	}
	w = and(append(many(499, near("z", yes)), tolerated("NoExecute"))...)
	if p, e := check(t, list(w), api.OfNode); e != api.OK || measure(p) != 1000 {
		t.Errorf("%d, %d", measure(p), e)
	}
}

// P1: arguments that are far too great.
func TestGreatArguments(t *testing.T) {
	long := strings.Repeat("x", 1<<20)
	for _, tree := range []api.Tree{parts(make([]api.Part, 1<<17)...), parts(part(api.KAnd, make([]int, 1<<20)...)), parts(api.Part{Kind: api.KTolerated, Text: long})} {
		for _, scope := range append(noScopes, scopes...) {
			expectRefused(t, tree, scope, api.ErrTree)
		}
	}
	for _, p := range []api.Plan{
		{Main: make([]api.PlanPart, 1<<17)},
		{Sels: make([][]api.PlanPart, 1<<17)},
		plan(join(api.PAnd, make([]int, 1<<20)...)),
		plan(lit(tol(long))),
		plan(lit(inTexts(nameTerm(api.OfNode), make([]string, 1<<20)...))),
		plan(lit(inNums(capTerm("c"), upTo(1<<20)...))),
	} {
		if norm.Valid(p) {
			t.Errorf("a plan of the measure %d is taken", measure(p))
		}
	}
}
