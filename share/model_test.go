package share_test

import (
	"math/big"
	"slices"

	"berth/api"
)

func sameLit(k, l api.Lit) bool {
	same := k.Kind == l.Kind && k.Term == l.Term && k.Rel == l.Rel && k.Num == l.Num && k.Other == l.Other && k.Of == l.Of && k.Key == l.Key && k.Sel == l.Sel
	return same && slices.Equal(k.Texts, l.Texts) && slices.Equal(k.Nums, l.Nums)
}

// alike is the chapter's word.
func alike(x, y api.DagPart) bool {
	return x.Kind == y.Kind && x.Pods == y.Pods && sameLit(x.Lit, y.Lit) && slices.Equal(x.Kids, y.Kids)
}

// selectorOf is the selector of a part, nil if it has none.
func selectorOf(l *api.Lit) *int {
	if l.Kind == api.LitNear {
		return &l.Sel
	}
	if l.Term.Kind == api.TermCount {
		return &l.Term.Sel
	}
	return nil
}

// modelShare is P18.2. Selectors are laid anew wherever they are met: what stands there already is only found again.
func modelShare(p api.Plan) api.Dag {
	var parts []api.DagPart
	lay := func(part api.DagPart) int {
		for at := range parts {
			if alike(parts[at], part) {
				return at
			}
		}
		parts = append(parts, part)
		return len(parts) - 1
	}
	kinds := map[api.PlanKind]api.DagKind{api.PTrue: api.DTrue, api.PFalse: api.DFalse, api.PLit: api.DLit, api.PAnd: api.DAnd, api.POr: api.DOr}
	var put func(w twig, pods bool) int
	put = func(w twig, pods bool) int {
		part := api.DagPart{Kind: kinds[w.part.Kind], Pods: pods, Lit: w.part.Lit}
		for _, kid := range w.kids {
			part.Kids = append(part.Kids, put(kid, pods))
		}
		if sel := selectorOf(&part.Lit); sel != nil {
			*sel = put(grown(p.Sels[*sel]), true)
		}
		place := lay(part)
		if w.part.Neg {
			place = lay(api.DagPart{Kind: api.DNot, Pods: pods, Kids: []int{place}})
		}
		return place
	}
	root := put(grown(p.Main), false)
	return api.Dag{Parts: parts, Root: root}
}

// reached: which parts the Root reaches by kids; with selectors, by these too.
func reached(d api.Dag, selectors bool) []bool {
	out := make([]bool, len(d.Parts))
	out[d.Root] = true
	for at := d.Root; at >= 0; at-- {
		if !out[at] {
			continue
		}
		for _, kid := range d.Parts[at].Kids {
			out[kid] = true
		}
		if sel := selectorOf(&d.Parts[at].Lit); sel != nil && selectors {
			out[*sel] = true
		}
	}
	return out
}

// unfoldedMeasure is the measure of the plan that a valid dag gives, however great.
func unfoldedMeasure(d api.Dag) *big.Int {
	weights := make([]*big.Int, len(d.Parts))
	for at, part := range d.Parts {
		weights[at] = big.NewInt(int64(1 + len(part.Lit.Texts) + len(part.Lit.Nums)))
		if part.Kind == api.DNot {
			weights[at] = new(big.Int)
		}
		for _, kid := range part.Kids {
			weights[at].Add(weights[at], weights[kid])
		}
	}
	total := new(big.Int).Set(weights[d.Root])
	counted := map[int]bool{}
	for at, is := range reached(d, false) {
		if sel := selectorOf(&d.Parts[at].Lit); is && sel != nil && !counted[*sel] {
			counted[*sel] = true
			total.Add(total, weights[*sel])
		}
	}
	return total
}

// given is what a part gives unnegated.
func given(d api.Dag, place int) twig {
	part := d.Parts[place]
	var kids []twig
	for _, kid := range part.Kids {
		kids = append(kids, given(d, kid))
	}
	switch part.Kind {
	case api.DTrue:
		return yes
	case api.DFalse:
		return no
	case api.DLit:
		return lit(part.Lit)
	case api.DNot:
		return not(kids[0])
	case api.DAnd:
		return and(kids...)
	}
	return or(kids...)
}

// modelUnfold is P18.4 for a valid dag.
func modelUnfold(d api.Dag) (api.Plan, api.Errno) {
	if unfoldedMeasure(d).Cmp(big.NewInt(1000)) > 0 {
		return api.Plan{}, api.ErrUnfold
	}
	p := api.Plan{Main: list(given(d, d.Root))}
	var places []int
	for i := range p.Main {
		sel := selectorOf(&p.Main[i].Lit)
		if sel == nil {
			continue
		}
		if !slices.Contains(places, *sel) {
			places = append(places, *sel)
			p.Sels = append(p.Sels, list(given(d, *sel)))
		}
		*sel = slices.Index(places, *sel)
	}
	return p, api.OK
}

// tidied is a plan whose selectors are such as Unfold answers: each alike one once, by their first use in Main.
func tidied(p api.Plan) api.Plan {
	out := api.Plan{Main: slices.Clone(p.Main)}
	for i := range out.Main {
		sel := selectorOf(&out.Main[i].Lit)
		if sel == nil {
			continue
		}
		old := p.Sels[*sel]
		if !slices.ContainsFunc(out.Sels, func(list []api.PlanPart) bool { return sameList(list, old) }) {
			out.Sels = append(out.Sels, old)
		}
		*sel = slices.IndexFunc(out.Sels, func(list []api.PlanPart) bool { return sameList(list, old) })
	}
	return out
}
