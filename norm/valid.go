package norm

import (
	"slices"

	"berth/api"
)

// fits: whether a plan's measure is one that is allowed.
func fits(p api.Plan) bool {
	measure := measureOf(p.Main)
	for _, list := range p.Sels {
		measure += measureOf(list)
	}
	return measure <= api.MaxParts
}

func measureOf(list []api.PlanPart) int {
	n := len(list)
	for _, part := range list {
		n += len(part.Lit.Texts) + len(part.Lit.Nums)
	}
	return n
}

// forNodes: whether a plan, its measure left aside, is valid for nodes.
func forNodes(p api.Plan) bool {
	for _, list := range p.Sels {
		if !inSelector().takes(list) {
			return false
		}
	}
	return inMain(len(p.Sels)).takes(p.Main)
}

// forPods: whether a plan, its measure left aside, is valid for pods.
func forPods(p api.Plan) bool {
	return len(p.Sels) == 0 && inSelector().takes(p.Main)
}

// place is where a list of a plan stands: of what may be spoken there beside the pod to be placed, and how many selectors there are to be spoken of.
type place struct {
	moves     api.Side
	selectors int
}

func inMain(selectors int) place { return place{api.OfNode, selectors} }

func inSelector() place { return place{api.OfIt, 0} }

// takes: whether a list may stand here.
func (p place) takes(list []api.PlanPart) bool {
	var alone []int // the places of the parts that are nobody's kids yet
	for at, part := range list {
		ahead := len(alone) - len(part.Kids)
		if ahead < 0 || !slices.Equal(part.Kids, alone[ahead:]) || !p.takesPart(part) {
			return false
		}
		alone = append(alone[:ahead], at)
	}
	return len(alone) == 1
}

// takesPart: whether a part may stand here, whichever parts its kids are.
func (p place) takesPart(part api.PlanPart) bool {
	switch part.Kind {
	case api.PTrue, api.PFalse:
		return len(part.Kids) == 0 && bare(part)
	case api.PAnd, api.POr:
		return len(part.Kids) >= 2 && bare(part)
	case api.PLit:
		return len(part.Kids) == 0 && p.takesLit(part.Lit)
	}
	return false
}

// bare: whether a part has neither a sign nor a literal.
func bare(part api.PlanPart) bool { return !part.Neg && same(part.Lit, api.Lit{}) }

// takesLit: whether a literal may stand here.
func (p place) takesLit(l api.Lit) bool {
	ofNode := p.moves == api.OfNode
	switch l.Kind {
	case api.LitIn:
		return p.takesIn(l)
	case api.LitRel:
		return p.takesNumber(l.Term) && bounded(l.Rel, l.Num) && same(l, api.Lit{Kind: l.Kind, Term: l.Term, Rel: l.Rel, Num: l.Num})
	case api.LitPod:
		return p.takesPod(l) && same(l, api.Lit{Kind: l.Kind, Term: l.Term, Rel: l.Rel, Other: l.Other})
	case api.LitKeys:
		return p.takesKeys(l) && same(l, api.Lit{Kind: l.Kind, Term: l.Term, Of: l.Of})
	case api.LitTaints:
		return ofNode && p.takesSought(l.Term) && same(l, api.Lit{Kind: l.Kind, Term: l.Term})
	case api.LitTol:
		return ofNode && short(l.Key) && same(l, api.Lit{Kind: l.Kind, Key: l.Key})
	case api.LitNear:
		return ofNode && short(l.Key) && p.has(l.Sel) && same(l, api.Lit{Kind: l.Kind, Key: l.Key, Sel: l.Sel})
	}
	return false
}

func (p place) takesIn(l api.Lit) bool {
	if p.takesText(l.Term) {
		return rises(l.Texts) && !slices.ContainsFunc(l.Texts, long) && same(l, api.Lit{Kind: l.Kind, Term: l.Term, Texts: l.Texts})
	}
	return p.takesNumber(l.Term) && rises(l.Nums) && !slices.ContainsFunc(l.Nums, far) && same(l, api.Lit{Kind: l.Kind, Term: l.Term, Nums: l.Nums})
}

// takesPod: whether the two terms may be held against each other by Rel.
func (p place) takesPod(l api.Lit) bool {
	if l.Other.Side != api.OfPod {
		return false
	}
	if p.takesText(l.Term) {
		return l.Rel == api.CmpEq && p.takesText(l.Other)
	}
	ordered := api.CmpLt <= l.Rel && l.Rel <= api.CmpGe
	return p.takesNumber(l.Term) && (l.Rel == api.CmpEq || ordered) && l.Other.Kind == api.TermNumber && p.takesNumber(l.Other)
}

// takesKeys: whether Term may be sought among the keys of Of. Not both move.
func (p place) takesKeys(l api.Lit) bool {
	switch l.Of {
	case api.OfPod:
		return p.takesSought(l.Term) || p.takesText(l.Term)
	case p.moves:
		return p.takesSought(l.Term)
	}
	return false
}

// has: whether there is a selector at this place.
func (p place) has(selector int) bool { return 0 <= selector && selector < p.selectors }

// same: whether two literals have the same in all fields; the lists of theirs that aren't empty are one list.
func same(l, m api.Lit) bool {
	lists := len(l.Texts) == len(m.Texts) && len(l.Nums) == len(m.Nums)
	return lists && l.Kind == m.Kind && l.Term == m.Term && l.Rel == m.Rel && l.Num == m.Num && l.Other == m.Other && l.Of == m.Of && l.Key == m.Key && l.Sel == m.Sel
}
