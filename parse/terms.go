package parse

import "berth/api"

func (p *parser) term() int {
	switch first := p.token(); {
	case isElement(first):
		return p.element()
	case p.at(api.TokenMark, "{"):
		return p.set()
	case first.Kind == api.TokenWord:
		return p.worded()
	}
	p.refuse()
	return 0
}

// worded is a term that begins with a word.
func (p *parser) worded() int {
	switch p.token().Text {
	case "node":
		return p.who(api.OfNode)
	case "pod":
		return p.who(api.OfPod)
	case "it":
		return p.who(api.OfIt)
	case "int":
		offset := p.take().At
		kid := p.within(p.term)
		return p.put(api.Part{Kind: api.KInt, Kids: []int{kid}}, offset)
	case "count":
		return p.selection(api.KCount)
	}
	p.refuse()
	return 0
}

// who is what is asked of a node or a pod: a label, or a field.
func (p *parser) who(side api.Side) int {
	offset := p.take().At
	part := api.Part{Kind: api.KLabel, Num: int(side)}
	if p.at(api.TokenMark, "[") {
		p.take()
		part.Text = p.text()
		p.mark("]")
	} else {
		p.mark(".")
		part.Kind = p.field()
	}
	if part.Kind == api.KCap {
		part.Text = p.named()
	}
	return p.put(part, offset)
}

// field takes the word behind a dot.
func (p *parser) field() api.Kind {
	kind := fieldOf(p.token())
	if kind == 0 {
		p.refuse()
	}
	p.take()
	return kind
}

// fieldOf: 0 for a token that names no field.
func fieldOf(token api.Token) api.Kind {
	if token.Kind != api.TokenWord {
		return 0
	}
	switch token.Text {
	case "name":
		return api.KName
	case "keys":
		return api.KKeys
	case "taints":
		return api.KTaints
	case "cap":
		return api.KCap
	}
	return 0
}

// set takes no comma ahead of its end: behind each one an element must stand.
func (p *parser) set() int {
	offset := p.mark("{").At
	var kids []int
	if !p.at(api.TokenMark, "}") {
		kids = append(kids, p.member(0))
	}
	for p.at(api.TokenMark, ",") {
		p.take()
		kids = append(kids, p.member(len(kids)))
	}
	p.mark("}")
	return p.put(api.Part{Kind: api.KSet, Kids: kids}, offset)
}

// member is an element of a set that has so many ahead of it.
func (p *parser) member(ahead int) int {
	token := p.token()
	if !isElement(token) {
		p.refuse()
	}
	if ahead == api.MaxSet {
		giveUp(api.ErrSetLong, token.At)
	}
	return p.element()
}

func isElement(token api.Token) bool {
	return token.Kind == api.TokenText || token.Kind == api.TokenNum
}

// element takes a text or a number, of which one is looked at.
func (p *parser) element() int {
	token := p.take()
	if token.Kind == api.TokenText {
		return p.put(api.Part{Kind: api.KText, Text: token.Text}, token.At)
	}
	return p.put(api.Part{Kind: api.KNum, Num: token.Num}, token.At)
}
