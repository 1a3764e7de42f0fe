package merge

import (
	"slices"

	"berth/api"
)

// joint is how a PAnd is made of its kids, or a POr, which is the same turned about.
type joint struct {
	maker
	kind    api.PlanKind
	other   api.PlanKind // the kind whose kids are branches
	idle    api.PlanKind // the constant that changes nothing as a kid
	decides api.PlanKind // the constant that is the whole if it is a kid
	turned  bool         // literals count as their negations
}

func (m maker) joint(kind api.PlanKind) joint {
	if kind == api.PAnd {
		return joint{maker: m, kind: api.PAnd, other: api.POr, idle: api.PTrue, decides: api.PFalse}
	}
	return joint{maker: m, kind: api.POr, other: api.PAnd, idle: api.PFalse, decides: api.PTrue, turned: true}
}

// of takes the steps of rule M3, one behind the other.
func (j joint) of(kids []*piece) *piece {
	kids = j.flattened(kids)
	if slices.ContainsFunc(kids, j.isDecisive) {
		return j.constant(j.decides)
	}
	kids, some := j.ranged(slices.DeleteFunc(kids, j.isIdle))
	if !some || contradict(kids) {
		return j.constant(j.decides)
	}
	return j.left(j.unabsorbed(kids))
}

func (j joint) isDecisive(kid *piece) bool { return kid.kind == j.decides }

func (j joint) isIdle(kid *piece) bool { return kid.kind == j.idle }

// flattened is a new list. One step down is enough: a part that has been made has no kid of its own kind.
func (j joint) flattened(kids []*piece) []*piece {
	var flat []*piece
	for _, kid := range kids {
		if kid.kind == j.kind {
			flat = append(flat, kid.kids...)
		} else {
			flat = append(flat, kid)
		}
	}
	return flat
}

// contradict: two of the kids are literals alike but for the sign.
func contradict(kids []*piece) bool {
	places := map[int]int{}
	for at, kid := range kids {
		places[kid.number] = at
		if _, has := places[kid.opposite()]; has {
			return true
		}
	}
	return false
}

// left is the joint of the kids, as far as one is needed.
func (j joint) left(kids []*piece) *piece {
	switch len(kids) {
	case 0:
		return j.constant(j.idle)
	case 1:
		return kids[0]
	}
	return j.junction(j.kind, kids)
}
