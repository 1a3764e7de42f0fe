package merge

import "berth/api"

// piece is a part that has been made, with its kids in it. Its literal's lists may still be those of the plan that was handed in: they are only read, and copied where they are written down.
type piece struct {
	kind   api.PlanKind
	neg    bool
	lit    api.Lit
	kids   []*piece
	number int
}

// opposite is the number of the literal with the other sign.
func (p *piece) opposite() int { return p.number ^ 1 }

// maker makes all pieces of one call and numbers them: two have the same number just if they are alike, however great they are.
type maker struct {
	numbers map[string]int
}

func newMaker() maker { return maker{map[string]int{}} }

// number is always even: the odd one behind it is left to the literal that is negated.
func (m maker) number(told string) int {
	n, known := m.numbers[told]
	if !known {
		n = 2 * len(m.numbers)
		m.numbers[told] = n
	}
	return n
}

func (m maker) constant(kind api.PlanKind) *piece { return m.junction(kind, nil) }

func (m maker) junction(kind api.PlanKind, kids []*piece) *piece {
	return &piece{kind: kind, kids: kids, number: m.number(toldJunction(kind, kids))}
}

func (m maker) literal(l api.Lit, neg bool) *piece {
	p := &piece{kind: api.PLit, neg: neg, lit: l, number: m.number(toldLit(l))}
	if neg {
		p.number = p.opposite()
	}
	return p
}
