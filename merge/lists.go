package merge

import "berth/api"

// whole is what the rules make of a list's last part. Kids stand ahead of their part, so they are made when it needs them.
func (m maker) whole(list []api.PlanPart, sels selectors) *piece {
	pieces := make([]*piece, len(list))
	for at, part := range list {
		switch part.Kind {
		case api.PLit:
			pieces[at] = m.literalOf(part, sels)
		case api.PAnd, api.POr:
			pieces[at] = m.joint(part.Kind).of(kidsOf(part, pieces))
		default:
			pieces[at] = m.constant(part.Kind)
		}
	}
	return pieces[len(list)-1]
}

func kidsOf(part api.PlanPart, pieces []*piece) []*piece {
	var kids []*piece
	for _, kid := range part.Kids {
		kids = append(kids, pieces[kid])
	}
	return kids
}

func (m maker) literalOf(part api.PlanPart, sels selectors) *piece {
	switch {
	case !isNever(part.Lit, sels):
		return m.literal(numbered(part.Lit, sels.firstAlike), part.Neg)
	case part.Neg:
		return m.constant(api.PTrue)
	}
	return m.constant(api.PFalse)
}

// isNever: nothing is in an empty set, and nothing is near where no pod is selected.
func isNever(l api.Lit, sels selectors) bool {
	switch l.Kind {
	case api.LitIn:
		return len(l.Texts) == 0 && len(l.Nums) == 0
	case api.LitNear:
		return sels[l.Sel].kind == api.PFalse
	}
	return false
}
