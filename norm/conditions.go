package norm

import "berth/api"

// maker goes over a tree that layer 14 takes; pieces are made at all places of conditions that it has left behind.
type maker struct {
	parts  []api.Part
	signs  []sign
	pieces []*piece
}

// wholeOf is what the rules make of a tree's last part.
func wholeOf(parts []api.Part) *piece {
	m := maker{parts: parts, signs: signsOf(parts), pieces: make([]*piece, len(parts))}
	for at, part := range parts {
		m.pieces[at] = m.made(part, m.signs[at])
	}
	return m.pieces[len(parts)-1]
}

// made is what a condition whose kids are made gives; nothing, for a term.
func (m maker) made(part api.Part, s sign) *piece {
	switch part.Kind {
	case api.KTrue, api.KFalse:
		return constant(part.Kind == api.KTrue, s)
	case api.KNot:
		return m.pieces[part.Kids[0]]
	case api.KAnd, api.KOr:
		return m.joined(part, s)
	case api.KNear, api.KApart:
		return m.near(part, s.otherIf(part.Kind == api.KApart))
	case api.KTolerated:
		return literal(api.Lit{Kind: api.LitTol, Key: part.Text}, nil, s)
	case api.KCmp:
		return m.compared(part, s)
	case api.KIn:
		return m.member(part, s.otherIf(part.Num == 1))
	}
	return nil
}

// joined: below a negation KAnd and KOr change about; their kids have been made with the same sign.
func (m maker) joined(part api.Part, s sign) *piece {
	var kids []*piece
	for _, kid := range part.Kids {
		kids = append(kids, m.pieces[kid])
	}
	if (part.Kind == api.KAnd) == (s == plain) {
		return junction(api.PAnd, kids)
	}
	return junction(api.POr, kids)
}

// near: no pod is near that a selector selects which is false everywhere.
func (m maker) near(part api.Part, s sign) *piece {
	selector := m.pieces[part.Kids[0]]
	if selector.kind == api.PFalse {
		return constant(false, s)
	}
	return literal(api.Lit{Kind: api.LitNear, Key: part.Text}, selector, s)
}

func (m maker) compared(part api.Part, s sign) *piece {
	left, right := m.operand(part.Kids[0]), m.operand(part.Kids[1])
	rel := api.Cmp(part.Num)
	if rel == api.CmpNe {
		rel, s = api.CmpEq, s.other()
	}
	switch {
	case left.fixed && right.fixed:
		return constant(left.stands(rel, right), s)
	case left.undefined() || right.undefined():
		return constant(false, s)
	case right.fixed:
		return literal(left.against(rel, right), left.selector, s)
	case left.fixed:
		return literal(right.against(turnedRound(rel), left), right.selector, s)
	case left.term.Side == api.OfPod && right.term.Side != api.OfPod:
		return literal(right.beside(turnedRound(rel), left), right.selector, s)
	}
	return literal(left.beside(rel, right), left.selector, s)
}

func (m maker) member(part api.Part, s sign) *piece {
	x, set := m.operand(part.Kids[0]), m.parts[part.Kids[1]]
	switch set.Kind {
	case api.KKeys:
		return literal(api.Lit{Kind: api.LitKeys, Term: x.asTerm(), Of: api.Side(set.Num)}, nil, s)
	case api.KTaints:
		return literal(api.Lit{Kind: api.LitTaints, Term: x.asTerm()}, nil, s)
	}
	elements := m.elements(set)
	switch {
	case len(set.Kids) == 0 || x.undefined():
		return constant(false, s)
	case x.fixed:
		return constant(elements.hold(x), s)
	}
	return literal(api.Lit{Kind: api.LitIn, Term: x.term, Texts: elements.texts, Nums: elements.nums}, x.selector, s)
}
