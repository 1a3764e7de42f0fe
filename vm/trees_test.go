package vm_test

import (
	"slices"

	"berth/api"
	"berth/sorts"
)

// branch is a part of a tree with its kids in it.
type branch struct {
	part api.Part
	kids []branch
}

func of(kind api.Kind, text string, num int, kids ...branch) branch {
	return branch{api.Part{Kind: kind, Text: text, Num: num}, kids}
}

func part(kind api.Kind, kids ...branch) branch { return of(kind, "", 0, kids...) }

// treeOf lays a branch out in postorder.
func treeOf(b branch) api.Tree {
	var tree api.Tree
	var put func(b branch) int
	put = func(b branch) int {
		p := b.part
		for _, kid := range b.kids {
			p.Kids = append(p.Kids, put(kid))
		}
		tree.Parts = append(tree.Parts, p)
		return len(tree.Parts) - 1
	}
	put(b)
	return tree
}

func (r chance) side(scope api.Side) int { return int(one(r, api.OfPod, scope, scope)) }

func (r chance) textPart(scope api.Side) branch {
	switch r.IntN(5) {
	case 0:
		return of(api.KText, one(r, slices.Concat(someValues, someNames, someKeys)...), 0)
	case 1:
		return of(api.KName, "", r.side(scope))
	}
	return of(api.KLabel, one(r, someKeys...), r.side(scope))
}

func (r chance) numPart(scope api.Side, deep int) branch {
	switch {
	case scope == api.OfNode && deep > 0 && r.IntN(3) == 0:
		return of(api.KCount, one(r, someKeys...), 0, r.condition(api.OfIt, deep-1))
	case scope == api.OfNode && r.IntN(4) == 0:
		return of(api.KCap, one(r, "cpu", "mem"), int(api.OfNode))
	case r.IntN(3) == 0:
		return of(api.KNum, "", r.IntN(5)-1)
	}
	return part(api.KInt, one(r, of(api.KText, one(r, someValues...), 0), of(api.KLabel, one(r, "n", "n", one(r, someKeys...)), r.side(scope))))
}

func (r chance) textsPart(scope api.Side) branch {
	switch {
	case scope == api.OfNode && r.IntN(4) == 0:
		return of(api.KTaints, "", int(api.OfNode))
	case r.IntN(3) == 0:
		return of(api.KKeys, "", r.side(scope))
	}
	var kids []branch
	for range r.IntN(5) {
		kids = append(kids, of(api.KText, one(r, slices.Concat(someValues, someNames)...), 0))
	}
	return part(api.KSet, kids...)
}

func (r chance) numsPart() branch {
	var kids []branch
	for range r.IntN(5) {
		kids = append(kids, of(api.KNum, "", r.IntN(6)-1))
	}
	return part(api.KSet, kids...)
}

// anyAtom is a condition without conditions in it, but for a selector's; sorts may refuse it.
func (r chance) anyAtom(scope api.Side, deep int) branch {
	switch r.IntN(12) {
	case 0:
		return part(one(r, api.KTrue, api.KFalse))
	case 1, 2:
		if scope == api.OfNode {
			return of(api.KTolerated, one(r, effects...), 0)
		}
	case 3, 4, 5:
		return of(api.KIn, "", r.IntN(2), r.textPart(scope), r.textsPart(scope))
	case 6:
		return of(api.KIn, "", r.IntN(2), r.numPart(scope, deep), r.numsPart())
	case 7, 8:
		return of(api.KCmp, "", 1+r.IntN(6), r.numPart(scope, deep), r.numPart(scope, deep))
	}
	return of(api.KCmp, "", 1+r.IntN(2), r.textPart(scope), r.textPart(scope))
}

// atom is one that sorts accepts in its scope.
func (r chance) atom(scope api.Side, deep int) branch {
	for {
		b := r.anyAtom(scope, deep)
		if _, err := sorts.Check(treeOf(b), scope); err == nil {
			return b
		}
	}
}

func (r chance) condition(scope api.Side, deep int) branch {
	if deep <= 0 || r.IntN(6) == 0 {
		return r.atom(scope, deep)
	}
	switch r.IntN(6) {
	case 0:
		return part(api.KNot, r.condition(scope, deep-1))
	case 1, 2:
		if scope == api.OfNode {
			return of(one(r, api.KNear, api.KApart), one(r, someKeys...), 0, r.condition(api.OfIt, deep-1))
		}
	}
	kids := []branch{r.condition(scope, deep-1), r.condition(scope, deep-2)}
	if r.IntN(3) == 0 { // a part that stands in several places
		inner := part(one(r, api.KAnd, api.KOr), one(r, kids...), r.condition(scope, deep-2))
		kids = append(kids, inner, part(one(r, api.KAnd, api.KOr), r.atom(scope, deep-2), one(r, inner, kids[0])))
	}
	return part(one(r, api.KAnd, api.KOr), kids...)
}

// tree is one that sorts accepts as a constraint.
func (r chance) tree(deep int) api.Tree {
	for {
		tree := treeOf(r.condition(api.OfNode, deep))
		if _, err := sorts.Check(tree, api.OfNode); err == nil {
			return tree
		}
	}
}
