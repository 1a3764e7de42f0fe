package share

import "berth/api"

// unfolding writes the lists of a plan out of a dag.
type unfolding struct {
	parts     []api.DagPart
	weights   []int
	room      int         // by how much the plan's measure may still grow
	selectors []int       // where those stand that literals have, in the order in which they were met
	entries   map[int]int // by where a selector stands, its place in the plan's Sels
}

// unfolded is the plan that a valid dag gives; false, if its measure is too great.
func unfolded(d api.Dag) (api.Plan, bool) {
	u := &unfolding{parts: d.Parts, weights: weightsOf(d.Parts), room: api.MaxParts, entries: map[int]int{}}
	main, fits := u.list(d.Root)
	if !fits {
		return api.Plan{}, false
	}
	p := api.Plan{Main: main}
	for _, place := range u.selectors {
		list, fits := u.list(place)
		if !fits {
			return api.Plan{}, false
		}
		p.Sels = append(p.Sels, list)
	}
	return p, true
}

// weightsOf: by how much each part makes a plan's measure greater wherever it is written down. What is more than a plan can bear isn't reckoned any further: it may double with each part.
func weightsOf(parts []api.DagPart) []int {
	weights := make([]int, len(parts))
	for at, part := range parts {
		weight := elementsOf(part.Lit)
		if part.Kind != api.DNot {
			weight++
		}
		for _, kid := range part.Kids {
			weight += weights[kid]
		}
		weights[at] = min(weight, api.MaxParts+1)
	}
	return weights
}

// list is what the part at this place gives unnegated; false, if there is no room for it. That is asked ahead of writing, for it may be longer than any list can be.
func (u *unfolding) list(place int) ([]api.PlanPart, bool) {
	u.room -= u.weights[place]
	if u.room < 0 {
		return nil, false
	}
	return u.put(nil, place, false), true
}

// put writes down, behind the list, what the part at this place gives.
func (u *unfolding) put(list []api.PlanPart, place int, negated bool) []api.PlanPart {
	part := u.parts[place]
	if part.Kind == api.DNot {
		return u.put(list, part.Kids[0], !negated)
	}
	given := api.PlanPart{Kind: givenKind(part.Kind, negated)}
	if part.Kind == api.DLit {
		given.Neg, given.Lit = negated, ownLists(numbered(part.Lit, u.entry))
	}
	for _, kid := range part.Kids {
		list = u.put(list, kid, negated)
		given.Kids = append(given.Kids, len(list)-1)
	}
	return append(list, given)
}

// entry is the place in Sels of the selector that stands here; the literal that is the first to have it gives it the next one.
func (u *unfolding) entry(selector int) int {
	entry, met := u.entries[selector]
	if !met {
		entry = len(u.selectors)
		u.entries[selector] = entry
		u.selectors = append(u.selectors, selector)
	}
	return entry
}

func givenKind(kind api.DagKind, negated bool) api.PlanKind {
	plain, turned := api.PLit, api.PLit
	switch kind {
	case api.DTrue:
		plain, turned = api.PTrue, api.PFalse
	case api.DFalse:
		plain, turned = api.PFalse, api.PTrue
	case api.DAnd:
		plain, turned = api.PAnd, api.POr
	case api.DOr:
		plain, turned = api.POr, api.PAnd
	}
	if negated {
		return turned
	}
	return plain
}
