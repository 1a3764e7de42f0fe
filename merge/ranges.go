package merge

import "berth/api"

// signed is a literal with its sign.
type signed struct {
	lit api.Lit
	neg bool
}

// group are range literals of one term, of which all must hold.
type group struct {
	term    api.Term
	texts   []set[string]
	numbers []set[int]
	span    span
	strict  bool // one of them is a bound that isn't negated: an undefined term fails it
}

func newGroup(term api.Term) *group { return &group{term: term, span: span{noLo, noHi}} }

func (g *group) add(l api.Lit, neg bool) {
	switch {
	case l.Kind == api.LitRel:
		g.span = g.span.within(l, neg)
		g.strict = g.strict || !neg
	case isText(l.Term):
		g.texts = append(g.texts, set[string]{l.Texts, neg})
	default:
		g.numbers = append(g.numbers, set[int]{l.Nums, neg})
	}
}

func isText(t api.Term) bool { return t.Kind == api.TermLabel || t.Kind == api.TermName }

// together is what rule M4 gives; false, where that is "none".
func (g *group) together() ([]signed, bool) {
	if isText(g.term) {
		return g.ofTexts()
	}
	return g.ofNumbers()
}

// ofTexts: of texts there are no bounds.
func (g *group) ofTexts() ([]signed, bool) {
	s := merged(g.texts, func(string) bool { return true })
	return []signed{{api.Lit{Kind: api.LitIn, Term: g.term, Texts: s.values}, s.negated}}, len(s.values) > 0
}

func (g *group) ofNumbers() ([]signed, bool) {
	s := merged(g.numbers, g.span.holds)
	if !s.negated {
		return []signed{g.in(s)}, len(s.values) > 0
	}
	span, barred := g.span.shaved(s.values)
	if g.strict && span.lo > span.hi {
		return nil, false
	}
	if g.strict && span.lo == span.hi {
		return []signed{g.in(set[int]{values: []int{span.lo}})}, true
	}
	out := g.ends(span)
	if len(barred) > 0 {
		out = append(out, g.in(set[int]{barred, true}))
	}
	return out, true
}

// ends are the span's bounds. Unless the group is strict they are negated ones: the undefined term passes them.
func (g *group) ends(s span) []signed {
	var out []signed
	if s.hasLo() && g.strict {
		out = append(out, g.bound(api.CmpGe, s.lo, false))
	}
	if s.hasLo() && !g.strict {
		out = append(out, g.bound(api.CmpLe, s.lo-1, true))
	}
	if s.hasHi() && g.strict {
		out = append(out, g.bound(api.CmpLe, s.hi, false))
	}
	if s.hasHi() && !g.strict {
		out = append(out, g.bound(api.CmpGe, s.hi+1, true))
	}
	return out
}

func (g *group) in(s set[int]) signed {
	return signed{api.Lit{Kind: api.LitIn, Term: g.term, Nums: s.values}, s.negated}
}

func (g *group) bound(rel api.Cmp, n int, neg bool) signed {
	return signed{api.Lit{Kind: api.LitRel, Term: g.term, Rel: rel, Num: n}, neg}
}
