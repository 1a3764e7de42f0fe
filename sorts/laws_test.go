package sorts_test

import (
	"math/rand/v2"
	"slices"
	"testing"

	"berth/api"
	"berth/show"
	"berth/sorts"
)

// expectWithin: a greater tree, where layer 13 takes it, is taken, and a tree that stands in it from a place on has the types there that it has alone.
func expectWithin(t *testing.T, greater api.Tree, scope api.Side, at int, types []api.Type) {
	t.Helper()
	if show.Valid(greater) != nil {
		return
	}
	all, err := sorts.Check(greater, scope)
	if err != nil || len(all) != len(greater.Parts) {
		t.Fatalf("Check(%s, %d): %d types, %v", toldTree(greater), scope, len(all), err)
	}
	if got := all[at : at+len(types)]; !slices.Equal(got, types) {
		t.Fatalf("Check(%s, %d): from %d on %s, want %s", toldTree(greater), scope, at, toldTypes(got), toldTypes(types))
	}
}

// P14.3: where two trees are taken in a scope, so are their conjunction, their disjunction and their negations, with the types that they have alone.
func TestTakenTogether(t *testing.T) {
	c := chance{rand.New(rand.NewPCG(14, 1000)), 0}
	taken := map[api.Side][]twig{}
	for _, scope := range both {
		for _, s := range conditionSamples {
			if s.wanted(scope).code == api.OK {
				taken[scope] = append(taken[scope], s.twig)
			}
		}
		for len(taken[scope]) < 60 {
			w := c.condition(scope, c.IntN(5))
			if _, err := sorts.Check(list(w), scope); err == nil {
				taken[scope] = append(taken[scope], w)
			}
		}
		for _, a := range taken[scope] {
			one, _ := sorts.Check(list(a), scope)
			expectWithin(t, list(not(a)), scope, 0, one)
			for _, b := range taken[scope] {
				two, _ := sorts.Check(list(b), scope)
				for _, join := range []func(...twig) twig{and, or} {
					expectWithin(t, list(join(a, b)), scope, 0, slices.Concat(one, two))
					expectWithin(t, list(not(join(b, not(a)))), scope, len(two), one)
					expectWithin(t, list(join(yes, a, b)), scope, 1, slices.Concat(one, two))
				}
			}
		}
	}
}

// P14.3: a selector that is taken in the scope OfIt is taken within near, apart and count with any key, and what isn't taken there isn't taken within them, with the same fault.
func TestSelectorsAloneAndWithin(t *testing.T) {
	c := chance{rand.New(rand.NewPCG(14, 1100)), 4}
	taken, refused := 0, 0
	for range 3000 {
		w := c.condition(api.OfIt, c.IntN(5))
		types, err := sorts.Check(list(w), api.OfIt)
		for _, s := range selections {
			key := goodKeys[c.IntN(len(goodKeys))]
			for _, tree := range []api.Tree{list(s.of(key, w)), list(or(no, s.of(key, w), yes))} {
				ahead := 0
				if tree.Parts[len(tree.Parts)-1].Kind == api.KOr {
					ahead = 1
				}
				if err == nil {
					taken++
					expectWithin(t, tree, api.OfNode, ahead, types)
				} else if show.Valid(tree) == nil {
					refused++
					fault := *err.(*api.Fault)
					fault.At += ahead
					expect(t, tree, api.OfNode, nil, &fault)
				}
			}
		}
	}
	if taken < 3000 || refused < 3000 {
		t.Errorf("only %d taken, %d refused", taken, refused)
	}
}

// P14.3: a part's type hangs on the part, on what stands in it and on its scope alone: cut out of a tree, each condition has the types that it had in it; each term, in any other place that takes it.
func TestPartsCutOut(t *testing.T) {
	c := chance{rand.New(rand.NewPCG(14, 1200)), 0}
	cut := 0
	for range 1500 {
		scope := one(c, both...)
		tree := list(c.condition(scope, c.IntN(6)))
		types, err := sorts.Check(tree, scope)
		if err != nil {
			continue
		}
		for at := range tree.Parts {
			from := firstOf(tree, at)
			piece := api.Tree{Parts: shifted(api.Tree{Parts: tree.Parts[from : at+1]}, -from)}
			cut++
			if tree.Parts[at].Kind < api.KText {
				expectWithin(t, piece, scopeAt(tree, at, scope), 0, types[from:at+1])
				continue
			}
			other := among(piece, types[at])
			expectWithin(t, other, scopeAt(tree, at, scope), len(other.Parts)-1-len(piece.Parts), types[from:at+1])
		}
	}
	if cut < 5000 {
		t.Errorf("only %d parts", cut)
	}
}

// firstOf is the first place of what stands in a part.
func firstOf(tree api.Tree, at int) int {
	for len(tree.Parts[at].Kids) > 0 {
		at = tree.Parts[at].Kids[0]
	}
	return at
}

// among is a comparison or a membership whose second kid is the whole of a piece.
func among(piece api.Tree, as api.Type) api.Tree {
	first, pair := full(api.KText, "x", 0), full(api.KIn, "", 1)
	switch as.Sort {
	case api.SortNum:
		first, pair = full(api.KNum, "", 5), full(api.KCmp, "", int(api.CmpGe))
	case api.SortText:
		pair = full(api.KCmp, "", int(api.CmpNe))
	case api.SortNums:
		first = full(api.KNum, "", 5)
	}
	list := append([]api.Part{first}, shifted(piece, 1)...)
	pair.Kids = []int{0, len(list) - 1}
	return api.Tree{Parts: append(list, pair)}
}
