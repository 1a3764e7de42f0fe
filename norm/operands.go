package norm

import (
	"cmp"
	"slices"

	"berth/api"
	"berth/compare"
	"berth/labels"
)

// operand is one side of a comparison, or what may be an element: a constant (fixed) or a term of the plan.
type operand struct {
	fixed    bool
	known    bool // whether a constant is worth anything
	isText   bool // whether a constant is a text, else a number
	text     string
	num      int
	term     api.Term
	selector *piece // of a count
}

// undefined: whether this is a constant that is worth nothing. What a term is worth is known to nobody here.
func (o operand) undefined() bool { return o.fixed && !o.known }

// operand is what the part at a place, a text or a number, becomes. Layer 14 lets int stand round a text or a label alone.
func (m maker) operand(at int) operand {
	part := m.parts[at]
	switch part.Kind {
	case api.KText:
		return operand{fixed: true, known: true, isText: true, text: part.Text}
	case api.KNum:
		return operand{fixed: true, known: true, num: part.Num}
	case api.KLabel:
		return operand{term: api.Term{Kind: api.TermLabel, Side: api.Side(part.Num), Key: part.Text}}
	case api.KName:
		return operand{term: api.Term{Kind: api.TermName, Side: api.Side(part.Num)}}
	case api.KInt:
		return m.integer(m.parts[part.Kids[0]])
	case api.KCap:
		return operand{term: api.Term{Kind: api.TermCap, Key: part.Text}}
	}
	return operand{term: api.Term{Kind: api.TermCount, Key: part.Text}, selector: m.pieces[part.Kids[0]]}
}

// integer is int of a text or of a label.
func (m maker) integer(part api.Part) operand {
	if part.Kind == api.KText {
		n, ok := labels.Int(part.Text)
		return operand{fixed: true, known: ok, num: n}
	}
	return operand{term: api.Term{Kind: api.TermNumber, Side: api.Side(part.Num), Key: part.Text}}
}

// stands: whether one constant stands so to another. Texts are only held against each other by CmpEq.
func (o operand) stands(rel api.Cmp, other operand) bool {
	switch {
	case o.undefined() || other.undefined():
		return false
	case o.isText:
		return o.text == other.text
	}
	return compare.Stands(o.num, rel, other.num)
}

// against is the literal that a term stands so to a constant. Of the four that order numbers two are enough: n is a whole number.
func (o operand) against(rel api.Cmp, c operand) api.Lit {
	switch {
	case rel == api.CmpLe || rel == api.CmpGe:
		return api.Lit{Kind: api.LitRel, Term: o.term, Rel: rel, Num: c.num}
	case rel == api.CmpLt:
		return api.Lit{Kind: api.LitRel, Term: o.term, Rel: api.CmpLe, Num: c.num - 1}
	case rel == api.CmpGt:
		return api.Lit{Kind: api.LitRel, Term: o.term, Rel: api.CmpGe, Num: c.num + 1}
	case c.isText:
		return api.Lit{Kind: api.LitIn, Term: o.term, Texts: []string{c.text}}
	}
	return api.Lit{Kind: api.LitIn, Term: o.term, Nums: []int{c.num}}
}

// beside is the literal that a term stands so to one of the pod to be placed.
func (o operand) beside(rel api.Cmp, ofPod operand) api.Lit {
	return api.Lit{Kind: api.LitPod, Term: o.term, Rel: rel, Other: ofPod.term}
}

// turnedRound is the comparison that says the same with its sides changed about.
func turnedRound(rel api.Cmp) api.Cmp {
	switch rel {
	case api.CmpLt:
		return api.CmpGt
	case api.CmpGt:
		return api.CmpLt
	case api.CmpLe:
		return api.CmpGe
	case api.CmpGe:
		return api.CmpLe
	}
	return rel
}

// asTerm is a text that is sought among keys: there a constant is a term, too.
func (o operand) asTerm() api.Term {
	if o.fixed {
		return api.Term{Kind: api.TermText, Key: o.text}
	}
	return o.term
}

// elements are those of a set, rising: texts or numbers.
type elements struct {
	texts []string
	nums  []int
}

func (m maker) elements(set api.Part) elements {
	var e elements
	for _, kid := range set.Kids {
		if part := m.parts[kid]; part.Kind == api.KText {
			e.texts = append(e.texts, part.Text)
		} else {
			e.nums = append(e.nums, part.Num)
		}
	}
	return elements{rising(e.texts), rising(e.nums)}
}

// hold: whether a constant is one of them.
func (e elements) hold(c operand) bool {
	if c.isText {
		return slices.Contains(e.texts, c.text)
	}
	return slices.Contains(e.nums, c.num)
}

// rising is the list itself brought into its order, each element once.
func rising[T cmp.Ordered](list []T) []T {
	slices.Sort(list)
	return slices.Compact(list)
}
