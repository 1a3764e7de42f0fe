package merge

import (
	"slices"

	"berth/api"
)

// writer puts pieces down in postorder; used are the old places of the selectors that it has met, in that order.
type writer struct {
	list []api.PlanPart
	used []int
}

// written is the plan of a whole and of those selectors that are left in it.
func written(whole *piece, sels selectors) api.Plan {
	var main writer
	main.put(whole)
	p := api.Plan{Main: main.list}
	for _, old := range main.used {
		var w writer
		w.put(sels[old])
		p.Sels = append(p.Sels, w.list)
	}
	return p
}

// put writes a piece behind its kids and answers its place.
func (w *writer) put(p *piece) int {
	part := api.PlanPart{Kind: p.kind, Neg: p.neg, Lit: numbered(p.lit, w.newPlace)}
	part.Lit.Texts, part.Lit.Nums = copied(p.lit.Texts), copied(p.lit.Nums)
	for _, kid := range p.kids {
		part.Kids = append(part.Kids, w.put(kid))
	}
	w.list = append(w.list, part)
	return len(w.list) - 1
}

// newPlace is the place of a selector in the plan that is written; a literal that is the first to ask gives it the next one.
func (w *writer) newPlace(old int) int {
	place := slices.Index(w.used, old)
	if place < 0 {
		place = len(w.used)
		w.used = append(w.used, old)
	}
	return place
}

// copied has no hold on the list that it copies, not even on the room behind an empty one.
func copied[T any](list []T) []T { return append([]T(nil), list...) }
