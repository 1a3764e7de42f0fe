package norm_test

import (
	"math"
	"slices"
	"strings"
	"testing"

	"berth/api"
	"berth/norm"
	"berth/parse"
	"berth/show"
)

// P16.2 to P16.4: random constraints, over random clusters for raw pods.
func TestRandomConstraints(t *testing.T) {
	answers := map[string]int{}
	for slips := range 3 {
		c := newChance(uint64(slips), slips)
		for range 300 {
			cl, p := c.cluster(t, 8, 12), c.rawPod()
			for range 8 {
				tree := list(c.condition(api.OfNode, c.IntN(6)))
				plan, e := check(t, tree, api.OfNode)
				if e != api.OK {
					answers["refused"]++
					continue
				}
				checkMeaning(t, cl, tree, p)
				answers["taken"]++
				if len(plan.Sels) > 1 {
					answers["selectors"]++
				}
				if len(plan.Main) == 1 && plan.Main[0].Kind != api.PLit {
					answers["constant"]++
				}
			}
		}
	}
	for _, each := range []string{"refused", "taken", "selectors", "constant"} {
		if answers[each] < 100 {
			t.Errorf("only %d answers: %s", answers[each], each)
		}
	}
}

// P16.2 to P16.4: random selectors at random pods.
func TestRandomSelectors(t *testing.T) {
	c := newChance(100, 1)
	answers := map[api.Errno]int{}
	for range 8000 {
		tree := list(c.condition(api.OfIt, c.IntN(5)))
		_, e := check(t, tree, api.OfIt)
		answers[e]++
		if e == api.OK {
			checkSelects(t, tree, c.rawPod(), c.rawPod())
		}
	}
	if answers[api.OK] < 2000 || len(answers) < 4 {
		t.Errorf("answers: %v", answers)
	}
}

// P16.2: a tree that parse makes of the text of another has the same plan.
func TestRandomSources(t *testing.T) {
	c := newChance(200, 0)
	for range 1000 {
		tree := list(c.taken(api.OfNode, 5))
		source, err := show.Text(tree)
		if err != nil {
			continue
		}
		again, _, err := parse.Parse(source)
		if err != nil {
			t.Fatal(source, err)
		}
		first, _ := check(t, tree, api.OfNode)
		if second, e := norm.Plan(again, api.OfNode); e != api.OK || !samePlan(first, second) {
			t.Fatalf("%s: %s, then %s", source, toldPlan(first), toldPlan(second))
		}
	}
}

// spoiledTree is a tree with one thing changed by chance.
func spoiledTree(c chance, tree api.Tree) api.Tree {
	out := api.Tree{Parts: slices.Clone(tree.Parts)}
	n := len(out.Parts)
	at := c.IntN(n)
	some := one(c, -1, 0, 1, 2, 3, 4, 7, at, at-1, at+1, n-1, n, math.MaxInt, math.MinInt)
	part := &out.Parts[at]
	part.Kids = slices.Clone(part.Kids)
	switch c.IntN(7) {
	case 0:
		part.Kind = api.Kind(c.IntN(23) - 1)
	case 1:
		part.Num = some
	case 2:
		part.Text = one(c, "", "x", "a b", "cpu", "NoExecute", "zone")
	case 3:
		part.Kids = append(part.Kids, some)
	case 4:
		if len(part.Kids) > 0 {
			part.Kids[c.IntN(len(part.Kids))] = some
		}
	case 5:
		out.Parts = slices.Delete(out.Parts, at, at+1)
	case 6:
		out.Parts = append(out.Parts, out.Parts[at])
	}
	return out
}

// P1, R2: random trees with one, two and three things changed, and lists of parts that are nothing but chance, in all scopes.
func TestSpoiledTrees(t *testing.T) {
	c := newChance(300, 1)
	answers := map[bool]int{}
	for range 5000 {
		tree := list(c.condition(api.OfNode, c.IntN(5)))
		for range 3 {
			if tree = spoiledTree(c, tree); len(tree.Parts) == 0 {
				break
			}
			_, e := check(t, tree, api.OfNode)
			answers[e == api.OK]++
			check(t, tree, api.OfIt)
			check(t, tree, one(c, noScopes...))
		}
		any := make([]api.Part, c.IntN(6))
		for i := range any {
			kids := make([]int, c.IntN(3))
			for j := range kids {
				kids[j] = one(c, c.IntN(6), i-1, i-len(kids)+j, int(c.Uint64()))
			}
			any[i] = api.Part{Kind: api.Kind(c.IntN(24) - 1), Num: one(c, 0, 1, c.IntN(9)-1, int(c.Uint64())), Text: one(c, "", "", "a"), Kids: kids}
		}
		check(t, parts(any...), one(c, scopes...))
	}
	if answers[true] < 500 || answers[false] < 5000 {
		t.Errorf("answers: %v", answers)
	}
}

// copied is a plan in memory of its own.
func copied(p api.Plan) api.Plan {
	each := func(list []api.PlanPart) []api.PlanPart {
		out := slices.Clone(list)
		for i := range out {
			out[i].Kids, out[i].Lit.Texts, out[i].Lit.Nums = slices.Clone(out[i].Kids), slices.Clone(out[i].Lit.Texts), slices.Clone(out[i].Lit.Nums)
		}
		return out
	}
	out := api.Plan{Main: each(p.Main)}
	for _, list := range p.Sels {
		out.Sels = append(out.Sels, each(list))
	}
	return out
}

func (c chance) anyTerm() api.Term {
	return api.Term{Kind: api.TermKind(c.IntN(9) - 1), Side: api.Side(c.IntN(6) - 1), Key: one(c, "", "a", strings.Repeat("x", 128)), Sel: one(c, 0, 0, 1, -1)}
}

// spoil changes one thing in a part.
func (c chance) spoil(part *api.PlanPart, n int) {
	l := &part.Lit
	switch c.IntN(15) {
	case 0:
		part.Kind = api.PlanKind(c.IntN(8) - 1)
	case 1:
		part.Neg = !part.Neg
	case 2:
		part.Kids = append(part.Kids, c.IntN(n+2)-1)
	case 3:
		slices.Reverse(part.Kids)
	case 4:
		l.Kind = api.LitKind(c.IntN(10) - 1)
	case 5:
		l.Term = c.anyTerm()
	case 6:
		l.Other = c.anyTerm()
	case 7:
		l.Rel = api.Cmp(c.IntN(9) - 1)
	case 8:
		l.Num = one(c, 0, 1, most, most+1, -most, -most-1, int(c.Uint64()))
	case 9:
		l.Of = api.Side(c.IntN(6) - 1)
	case 10:
		l.Sel = c.IntN(5) - 1
	case 11:
		l.Key = one(c, "", "k", strings.Repeat("k", 127), strings.Repeat("k", 128))
	case 12:
		l.Texts = append(l.Texts, one(c, "", "zz", strings.Repeat("x", 128)))
	case 13:
		l.Nums = append(l.Nums, one(c, 0, 9, most, most+1))
	case 14:
		l.Term.Sel, l.Term.Side = c.IntN(4)-1, api.Side(c.IntN(4))
	}
}

// P16.1, P1: plans of random trees, and the same with up to three things changed.
func TestSpoiledPlans(t *testing.T) {
	c := newChance(400, 0)
	answers := map[[2]bool]int{}
	for i := range 6000 {
		scope := scopes[i%2]
		p, e := norm.Plan(list(c.taken(scope, 5)), scope)
		if e != api.OK {
			t.Fatal(e)
		}
		checkValid(t, p)
		for range 3 {
			p = copied(p)
			lists := append(slices.Clone(p.Sels), p.Main)
			spot := one(c, lists...)
			switch c.IntN(12) {
			case 0:
				p.Sels = append(p.Sels, one(c, lists...))
			case 1:
				p.Sels = p.Sels[:max(0, len(p.Sels)-1)]
			case 2:
				p.Main = append(p.Main, one(c, p.Main...))
			default:
				c.spoil(&spot[c.IntN(len(spot))], len(spot))
			}
			nodes, pods := checkValid(t, p)
			answers[[2]bool{nodes, pods}]++
		}
	}
	if len(answers) != 4 || answers[[2]bool{true, true}] < 50 || answers[[2]bool{true, false}] < 500 || answers[[2]bool{false, true}] < 100 || answers[[2]bool{}] < 5000 {
		t.Errorf("answers: %v", answers)
	}
}
