package parse

import "berth/api"

// expr, like all functions of a production, is the place of the part that it has written down.
func (p *parser) expr() int { return p.row(api.KOr, "||", p.conj) }

func (p *parser) conj() int { return p.row(api.KAnd, "&&", p.unit) }

// row is a part of all that stands between marks of one kind; where no mark stands, one alone is itself.
func (p *parser) row(kind api.Kind, mark string, one func() int) int {
	kids := []int{one()}
	offset := p.token().At
	for p.at(api.TokenMark, mark) {
		p.take()
		kids = append(kids, one())
	}
	if len(kids) == 1 {
		return kids[0]
	}
	return p.put(api.Part{Kind: kind, Kids: kids}, offset)
}

func (p *parser) unit() int {
	switch {
	case p.at(api.TokenMark, "!"):
		return p.negation()
	case p.at(api.TokenMark, "("):
		return p.within(p.expr)
	}
	return p.atom()
}

func (p *parser) negation() int {
	offset := p.open("!").At
	kid := p.unit()
	p.shut()
	return p.put(api.Part{Kind: api.KNot, Kids: []int{kid}}, offset)
}

// within is what stands in parentheses that count as a nest.
func (p *parser) within(inner func() int) int {
	p.open("(")
	kid := inner()
	p.mark(")")
	p.shut()
	return kid
}

// atom takes every word that begins no other condition for a term's.
func (p *parser) atom() int {
	first := p.token()
	if first.Kind == api.TokenWord {
		switch first.Text {
		case "true":
			return p.constant(api.KTrue)
		case "false":
			return p.constant(api.KFalse)
		case "near":
			return p.selection(api.KNear)
		case "apart":
			return p.selection(api.KApart)
		case "tolerated":
			return p.tolerated()
		}
	}
	return p.comparison()
}

func (p *parser) constant(kind api.Kind) int {
	return p.put(api.Part{Kind: kind}, p.take().At)
}

// selection is near, apart or count, which differ in their kind alone.
func (p *parser) selection(kind api.Kind) int {
	offset := p.take().At
	part := api.Part{Kind: kind}
	kid := p.within(func() int {
		part.Text = p.text()
		p.mark(",")
		return p.expr()
	})
	part.Kids = []int{kid}
	return p.put(part, offset)
}

func (p *parser) tolerated() int {
	offset := p.take().At
	return p.put(api.Part{Kind: api.KTolerated, Text: p.named()}, offset)
}

// named is a text in parentheses that count as no nest.
func (p *parser) named() string {
	p.mark("(")
	text := p.text()
	p.mark(")")
	return text
}

// comparison is two terms, and what stands between them.
func (p *parser) comparison() int {
	left := p.term()
	part, ok := between(p.token())
	if !ok {
		p.refuse()
	}
	offset := p.take().At
	part.Kids = []int{left, p.term()}
	return p.put(part, offset)
}

// between: the part, without its kids, that a token between two terms stands for.
func between(token api.Token) (api.Part, bool) {
	switch token.Kind {
	case api.TokenMark:
		cmp := comparisonOf(token.Text)
		return api.Part{Kind: api.KCmp, Num: int(cmp)}, cmp != 0
	case api.TokenWord:
		switch token.Text {
		case "in":
			return api.Part{Kind: api.KIn, Num: 0}, true
		case "notin":
			return api.Part{Kind: api.KIn, Num: 1}, true
		}
	}
	return api.Part{}, false
}

// comparisonOf: 0 for a mark that compares nothing.
func comparisonOf(mark string) api.Cmp {
	switch mark {
	case "==":
		return api.CmpEq
	case "!=":
		return api.CmpNe
	case "<":
		return api.CmpLt
	case "<=":
		return api.CmpLe
	case ">":
		return api.CmpGt
	case ">=":
		return api.CmpGe
	}
	return 0
}
