package share

import (
	"berth/api"
	"berth/norm"
)

// fewEnough: whether parts, kids and elements keep to their limits.
func fewEnough(parts []api.DagPart) bool {
	if len(parts) < 1 || len(parts) > api.MaxDag {
		return false
	}
	kids, elements := 0, 0
	for _, part := range parts {
		kids += len(part.Kids)
		elements += elementsOf(part.Lit)
	}
	return kids <= api.MaxDag && elements <= api.MaxParts
}

func elementsOf(l api.Lit) int { return len(l.Texts) + len(l.Nums) }

// stands: whether at this place of the list there is a part, and it stands for pods or for nodes as is asked.
func stands(parts []api.DagPart, place int, pods bool) bool {
	return 0 <= place && place < len(parts) && parts[place].Pods == pods
}

func kidsFit(part api.DagPart, earlier []api.DagPart) bool {
	for _, kid := range part.Kids {
		if !stands(earlier, kid, part.Pods) {
			return false
		}
	}
	switch part.Kind {
	case api.DTrue, api.DFalse, api.DLit:
		return len(part.Kids) == 0
	case api.DNot:
		return len(part.Kids) == 1
	case api.DAnd, api.DOr:
		return len(part.Kids) >= 2
	}
	return false
}

// litFits: whether the part may have its literal. Selectors are looked for here; all else layer 16 knows, as if the selector stood in the one place that there is.
func litFits(part api.DagPart, earlier []api.DagPart) bool {
	selected := true
	l := numbered(part.Lit, func(selector int) int {
		selected = selected && stands(earlier, selector, true)
		return 0
	})
	front, back := halves(l)
	return selected && allowed(part, front) && allowed(part, back)
}

// halves are two literals that are allowed just if l is: a set of MaxParts elements would be too much for a plan to be asked about it. Both have the element in the middle, so that they rise just where the whole does.
func halves(l api.Lit) (api.Lit, api.Lit) {
	front, back := l, l
	front.Texts, back.Texts = halved(l.Texts)
	front.Nums, back.Nums = halved(l.Nums)
	return front, back
}

func halved[T any](list []T) ([]T, []T) {
	middle := len(list) / 2
	return list[:min(middle+1, len(list))], list[middle:]
}

// allowed: whether layer 16 lets a literal stand where the part does.
func allowed(part api.DagPart, l api.Lit) bool {
	constant, holder := api.PlanPart{Kind: api.PTrue}, api.PlanPart{Kind: api.PTrue, Lit: l}
	if part.Kind == api.DLit {
		holder.Kind = api.PLit
	}
	if part.Pods {
		return allowedTogether(constant, holder)
	}
	return allowedTogether(holder, constant)
}

// allowedTogether: there is always a selector, so that Main itself is never taken for one.
func allowedTogether(main, selector api.PlanPart) bool {
	return norm.Valid(api.Plan{Main: []api.PlanPart{main}, Sels: [][]api.PlanPart{{selector}}})
}

// speaksOfIt: whether something in a valid list has the side OfIt; what a term is held against never has.
func speaksOfIt(list []api.PlanPart) bool {
	for _, part := range list {
		if part.Lit.Term.Side == api.OfIt || part.Lit.Of == api.OfIt {
			return true
		}
	}
	return false
}
