package merge

import "berth/api"

// spot is a place among a joint's kids: that of one kid, or that of all range literals of one term.
type spot struct {
	kid   *piece
	group *group
}

// ranged puts what the range literals of a term say together in the place of the first of them; false, if for some term that is never true.
func (j joint) ranged(kids []*piece) ([]*piece, bool) {
	var out []*piece
	for _, s := range j.spots(kids) {
		if s.group == nil {
			out = append(out, s.kid)
			continue
		}
		together, some := s.group.together()
		if !some {
			return nil, false
		}
		for _, l := range together {
			out = append(out, j.literal(l.lit, l.neg != j.turned))
		}
	}
	return out, true
}

func (j joint) spots(kids []*piece) []spot {
	var spots []spot
	places := map[api.Term]int{}
	for _, kid := range kids {
		if !isRange(kid) {
			spots = append(spots, spot{kid: kid})
			continue
		}
		place, known := places[kid.lit.Term]
		if !known {
			place = len(spots)
			places[kid.lit.Term] = place
			spots = append(spots, spot{group: newGroup(kid.lit.Term)})
		}
		spots[place].group.add(kid.lit, kid.neg != j.turned)
	}
	return spots
}

// isRange: only literals have a kind of literal.
func isRange(kid *piece) bool { return kid.lit.Kind == api.LitIn || kid.lit.Kind == api.LitRel }
