package norm

import "berth/api"

// writer puts pieces down in postorder; selectors are those of the literals that it has met, in that order.
type writer struct {
	list      []api.PlanPart
	selectors []*piece
}

// written is the plan of a whole. Only here, where nothing falls away any more, are selectors numbered.
func written(whole *piece) api.Plan {
	var main writer
	main.put(whole)
	p := api.Plan{Main: main.list}
	for _, selector := range main.selectors {
		var w writer
		w.put(selector)
		p.Sels = append(p.Sels, w.list)
	}
	return p
}

// put writes a piece behind its kids and answers its place.
func (w *writer) put(p *piece) int {
	part := api.PlanPart{Kind: p.kind, Neg: p.neg, Lit: p.lit}
	for _, kid := range p.kids {
		part.Kids = append(part.Kids, w.put(kid))
	}
	if p.selector != nil {
		part.Lit = numbered(part.Lit, len(w.selectors))
		w.selectors = append(w.selectors, p.selector)
	}
	w.list = append(w.list, part)
	return len(w.list) - 1
}

// numbered is a literal that speaks of the selector at this place: itself, or by the count that is its term.
func numbered(l api.Lit, place int) api.Lit {
	if l.Kind == api.LitNear {
		l.Sel = place
	} else {
		l.Term.Sel = place
	}
	return l
}
