package norm

import "berth/api"

// piece is a plan part that isn't written down yet: its kids stand in it, and so does the selector of which its literal speaks. So what falls away takes along all that it holds.
type piece struct {
	kind     api.PlanKind
	neg      bool
	lit      api.Lit
	kids     []*piece
	selector *piece
}

// constant is what is worth the same everywhere.
func constant(worth bool, s sign) *piece {
	if worth == (s == plain) {
		return &piece{kind: api.PTrue}
	}
	return &piece{kind: api.PFalse}
}

func literal(l api.Lit, selector *piece, s sign) *piece {
	return &piece{kind: api.PLit, neg: s == negated, lit: l, selector: selector}
}

// junction is a PAnd or a POr of the kids, as far as one is needed.
func junction(kind api.PlanKind, kids []*piece) *piece {
	idle, settling := api.PTrue, api.PFalse
	if kind == api.POr {
		idle, settling = settling, idle
	}
	var left []*piece
	for _, kid := range kids {
		switch kid.kind {
		case settling:
			return kid
		case idle:
		default:
			left = append(left, kid)
		}
	}
	switch len(left) {
	case 0:
		return &piece{kind: idle}
	case 1:
		return left[0]
	}
	return &piece{kind: kind, kids: left}
}
