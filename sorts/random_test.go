package sorts_test

import (
	"math"
	"math/rand/v2"
	"slices"
	"testing"

	"berth/api"
	"berth/parse"
	"berth/show"
	"berth/sorts"
)

// chance makes trees by chance: slips is how often, out of a hundred, a thing is put in that need not fit.
type chance struct {
	*rand.Rand
	slips int
}

func (c chance) slip() bool { return c.IntN(100) < c.slips }

func one[T any](c chance, list ...T) T { return list[c.IntN(len(list))] }

func (c chance) key() string {
	if c.slip() {
		return one(c, "", "a b", "-", "a/b/c", long(64))
	}
	return one(c, "zone", "a", "n/A", long(63))
}

// side of a label, name or list of keys in a scope.
func (c chance) side(scope api.Side) int {
	if c.slip() {
		return 1 + c.IntN(3)
	}
	return one(c, pod, int(scope))
}

func (c chance) text(scope api.Side) twig {
	switch c.IntN(5) {
	case 0, 1:
		return text(one(c, "", "a", "7", "\xff", "zone"))
	case 2:
		return name(c.side(scope))
	}
	return label(c.side(scope), c.key())
}

func (c chance) number(scope api.Side, deep int) twig {
	if scope == api.OfNode && c.IntN(3) == 0 || c.slip() {
		if deep > 0 && c.IntN(2) == 0 {
			return count(c.key(), c.condition(api.OfIt, deep-1))
		}
		return capacity(one(c, node, node, node, c.side(scope)), one(c, "cpu", "a/b", "mem", c.key()))
	}
	if c.IntN(2) == 0 {
		return num(c.IntN(100) - 50)
	}
	kid := one(c, text(one(c, "7", "x")), label(c.side(scope), c.key()))
	if c.slip() {
		kid = c.term(scope, deep-1)
	}
	return integer(kid)
}

func (c chance) set(element func() twig) twig {
	kids := make([]twig, c.IntN(5))
	for i := range kids {
		kids[i] = element()
		if c.slip() {
			kids[i] = one(c, text("x"), num(3))
		}
	}
	return set(kids...)
}

func (c chance) texts(scope api.Side) twig {
	switch {
	case scope == api.OfNode && c.IntN(4) == 0 || c.slip():
		return taints(one(c, node, node, c.side(scope)))
	case c.IntN(2) == 0:
		return keys(c.side(scope))
	}
	return c.set(func() twig { return text(one(c, "a", "b", "")) })
}

func (c chance) numbers() twig { return c.set(func() twig { return num(c.IntN(9)) }) }

// term is one of any sort.
func (c chance) term(scope api.Side, deep int) twig {
	switch c.IntN(4) {
	case 0:
		return c.text(scope)
	case 1:
		return c.texts(scope)
	case 2:
		return c.numbers()
	}
	return c.number(scope, deep)
}

// pair is a comparison or a membership; both kids may move.
func (c chance) pair(scope api.Side, deep int) twig {
	switch {
	case c.slip():
		w := in(c.term(scope, deep), c.term(scope, deep))
		if c.IntN(2) == 0 {
			return w
		}
		return cmp(w.kids[0], api.Cmp(1+c.IntN(6)), w.kids[1])
	case c.IntN(4) == 0:
		return of(api.KIn, "", c.IntN(2), c.text(scope), c.texts(scope))
	case c.IntN(4) == 0:
		return of(api.KIn, "", c.IntN(2), c.number(scope, deep), c.numbers())
	case c.IntN(2) == 0:
		cmps := []api.Cmp{api.CmpEq, api.CmpNe, api.CmpEq, api.CmpNe, api.Cmp(1 + c.IntN(6))}
		if c.slips == 0 {
			cmps = cmps[:4]
		}
		return cmp(c.text(scope), one(c, cmps...), one(c, c.text(scope), c.text(api.OfPod), text("x")))
	}
	return cmp(c.number(scope, deep), api.Cmp(1+c.IntN(6)), one(c, c.number(scope, deep), num(1), integer(label(pod, "a"))))
}

// condition is one by chance, the smaller the less deep it may be.
func (c chance) condition(scope api.Side, deep int) twig {
	if deep <= 0 || c.IntN(4) == 0 {
		switch c.IntN(8) {
		case 0:
			return one(c, yes, no)
		case 1:
			if scope == api.OfNode || c.slip() {
				return tolerated(one(c, "NoSchedule", "NoExecute", "PreferNoSchedule", one(c, "NoExecute", "NoSchedule", c.key())))
			}
		}
		return c.pair(scope, deep-1)
	}
	switch {
	case c.IntN(4) == 0:
		return not(c.condition(scope, deep-1))
	case c.IntN(4) == 0 && scope == api.OfNode || c.slip() && c.IntN(2) == 0:
		return one(c, near, apart)(c.key(), c.condition(api.OfIt, deep-1))
	}
	kids := make([]twig, 2+c.IntN(2)*c.IntN(3))
	for i := range kids {
		kids[i] = c.condition(scope, deep-1-c.IntN(2))
	}
	return one(c, and, or)(kids...)
}

// P14.1, P14.2: random trees in both scopes, from those in which little slips to those in which much does.
func TestRandomTrees(t *testing.T) {
	answers := map[api.Errno]int{}
	for slips := range 8 {
		c := chance{rand.New(rand.NewPCG(14, uint64(slips))), slips * slips}
		for range 3000 {
			scope := one(c, both...)
			tree := list(c.condition(scope, c.IntN(7)))
			for _, s := range both {
				f := check(t, tree, s)
				if f == nil {
					answers[api.OK]++
					continue
				}
				answers[f.Code]++
				if f.Code != api.ErrSortTree && (f.At < 0 || f.At >= len(tree.Parts)) {
					t.Fatalf("%s: %v", toldTree(tree), f)
				}
			}
		}
	}
	for _, code := range []api.Errno{api.OK, api.ErrSortType, api.ErrSortScope, api.ErrSortInner, api.ErrSortSides, api.ErrSortSet, api.ErrSortKey, api.ErrSortInt} {
		if answers[code] < 200 {
			t.Errorf("only %d answers with the code %d", answers[code], code)
		}
	}
	if answers[api.ErrSortRoot] != 0 {
		t.Errorf("ErrSortRoot was answered %d times", answers[api.ErrSortRoot])
	}
}

// P14.1: random trees come out of their texts with the same answers.
func TestRandomSources(t *testing.T) {
	c := chance{rand.New(rand.NewPCG(14, 100)), 3}
	taken := 0
	for range 4000 {
		scope := one(c, both...)
		tree := list(c.condition(scope, c.IntN(6)))
		source, err := show.Text(tree)
		if err != nil {
			continue
		}
		again, _, err := parse.Parse(source)
		if err != nil {
			t.Fatal(source, err)
		}
		types, fault := model(tree, scope)
		expect(t, again, scope, types, fault)
		if fault == nil {
			taken++
		}
	}
	if taken < 1000 {
		t.Errorf("only %d trees were taken", taken)
	}
}

// spoiled is a tree with one thing changed by chance.
func spoiled(c chance, tree api.Tree) api.Tree {
	out := api.Tree{Parts: shifted(tree, 0)}
	n := len(out.Parts)
	at := c.IntN(n)
	some := one(c, -1, 0, 1, 2, 3, 4, 6, 7, at, at-1, at+1, n-1, n, math.MaxInt, math.MinInt)
	part := &out.Parts[at]
	switch c.IntN(7) {
	case 0:
		part.Kind = api.Kind(c.IntN(23) - 1)
	case 1:
		part.Num = some
	case 2:
		part.Text = one(c, "", "x", "a b", "cpu", "NoExecute", long(127), long(128))
	case 3:
		part.Kids = append(part.Kids, some)
	case 4:
		if len(part.Kids) > 0 {
			part.Kids[c.IntN(len(part.Kids))] = some
		}
	case 5:
		out.Parts = slices.Delete(out.Parts, at, at+1)
	case 6:
		out.Parts = append(out.Parts, out.Parts[at])
	}
	return out
}

// P1, P14.1: random trees with one, two and three things changed, in any scope.
func TestSpoiledTrees(t *testing.T) {
	c := chance{rand.New(rand.NewPCG(14, 200)), 2}
	answers := map[api.Errno]int{}
	for range 5000 {
		tree := list(c.condition(one(c, both...), c.IntN(6)))
		for range 3 {
			if tree = spoiled(c, tree); len(tree.Parts) == 0 {
				break
			}
			if f := check(t, tree, one(c, 2, 3, 2, 3, 2, 3, api.Side(c.IntN(6)-1))); f != nil {
				answers[f.Code]++
			} else {
				answers[api.OK]++
			}
		}
	}
	if answers[api.OK] < 300 || answers[api.ErrSortTree] < 5000 || answers[api.ErrSortSide] < 500 || answers[api.ErrSortScope] < 200 {
		t.Errorf("answers: %v", answers)
	}
}

// P1: lists of parts that are nothing but chance.
func TestRandomParts(t *testing.T) {
	c := chance{rand.New(rand.NewPCG(14, 300)), 0}
	for range 10000 {
		list := make([]api.Part, c.IntN(6))
		for i := range list {
			kids := make([]int, c.IntN(4))
			for j := range kids {
				kids[j] = one(c, c.IntN(6), i-1, i-len(kids)+j, int(c.Uint64()))
			}
			list[i] = api.Part{Kind: api.Kind(c.IntN(24) - 1), Num: one(c, 0, 1, c.IntN(9)-1, int(c.Uint64())), Text: one(c, "", "", "a", long(127+c.IntN(2))), Kids: kids}
		}
		check(t, api.Tree{Parts: list}, one(c, api.OfNode, api.OfIt, api.Side(int(c.Uint64()))))
	}
}

// fewParts are parts without their kids, right in all that layer 13 asks of them.
var fewParts = []struct {
	part api.Part
	kids []int // how many it may have
}{
	{api.Part{Kind: api.KTrue}, []int{0}},
	{api.Part{Kind: api.KNot}, []int{1}},
	{api.Part{Kind: api.KAnd}, []int{2}},
	{api.Part{Kind: api.KCmp, Num: int(api.CmpEq)}, []int{2}},
	{api.Part{Kind: api.KCmp, Num: int(api.CmpLt)}, []int{2}},
	{api.Part{Kind: api.KIn}, []int{2}},
	{api.Part{Kind: api.KNear, Text: "a"}, []int{1}},
	{api.Part{Kind: api.KText, Text: "a"}, []int{0}},
	{api.Part{Kind: api.KNum, Num: 1}, []int{0}},
	{api.Part{Kind: api.KSet}, []int{0, 1, 2}},
	{api.Part{Kind: api.KLabel, Text: "a", Num: node}, []int{0}},
	{api.Part{Kind: api.KName, Num: it}, []int{0}},
	{api.Part{Kind: api.KKeys, Num: pod}, []int{0}},
	{api.Part{Kind: api.KInt}, []int{1}},
	{api.Part{Kind: api.KCount, Text: "b"}, []int{1}},
}

// P14.1: every tree of up to six of a few parts, in both scopes.
func TestEverySmallTree(t *testing.T) {
	answers := map[api.Errno]int{}
	var grow func(list []api.Part, alone []int)
	grow = func(list []api.Part, alone []int) {
		if tree := (api.Tree{Parts: list}); show.Valid(tree) == nil {
			for _, scope := range both {
				if f := check(t, tree, scope); f != nil {
					answers[f.Code]++
				} else {
					answers[api.OK]++
				}
			}
		}
		for _, few := range fewParts {
			for _, n := range few.kids {
				if n > len(alone) || len(list) == 6 || len(alone)-n+1 > 6-len(list) {
					continue
				}
				part := few.part
				part.Kids = slices.Clone(alone[len(alone)-n:])
				if !classed(list, part) {
					continue
				}
				grow(append(slices.Clip(list), part), append(slices.Clone(alone[:len(alone)-n]), len(list)))
			}
		}
	}
	grow(nil, nil)
	for _, code := range []api.Errno{api.OK, api.ErrSortType, api.ErrSortScope, api.ErrSortInner, api.ErrSortSides, api.ErrSortSet, api.ErrSortInt} {
		if answers[code] < 40 {
			t.Errorf("only %d answers with the code %d", answers[code], code)
		}
	}
}

// classed: whether the kids of a part are of the class that layer 13 asks for.
func classed(list []api.Part, part api.Part) bool {
	for _, kid := range part.Kids {
		kind := list[kid].Kind
		switch part.Kind {
		case api.KCmp, api.KIn, api.KInt:
			if kind < api.KText {
				return false
			}
		case api.KSet:
			if kind != api.KText && kind != api.KNum {
				return false
			}
		default:
			if kind >= api.KText {
				return false
			}
		}
	}
	return true
}

// P1: the deepest and the largest trees that layer 13 takes, and what no tree has.
func TestGreatArguments(t *testing.T) {
	deepest := equal(name(node), text("a"))
	for range 16 {
		deepest = or(no, and(or(yes, and(deepest, yes)), no))
	}
	for _, w := range []twig{
		deepest,
		or(many(999, yes)...),
		and(many(249, equal(name(node), text("a")))...),
		and(many(14, in(num(1), set(many(64, num(1))...)))...),
		or(many(333, near("z", tolerated("NoExecute")))...),
	} {
		tree := list(w)
		if err := show.Valid(tree); err != nil {
			t.Fatalf("%s: %v", toldTree(tree), err)
		}
		for _, scope := range both {
			check(t, tree, scope)
		}
	}
	great := make([]int, 1<<20)
	for i := range great {
		great[i] = i - 1
	}
	for _, tree := range []api.Tree{
		parts(plain(api.KAnd, great...)),
		parts(full(api.KTolerated, long(1<<20), 0)),
		parts(make([]api.Part, 1<<17)...),
	} {
		for _, scope := range []api.Side{api.OfNode, api.OfIt, api.OfPod} {
			if types, err := sorts.Check(tree, scope); len(types) != 0 || err == nil {
				t.Errorf("%s: %v", toldTree(tree), err)
			}
			check(t, tree, scope)
		}
	}
}
