package show

import "berth/api"

// mostNum is the greatest number of api.MaxNumDigits digits.
const mostNum = 999_999_999_999_999_999

// class is as what a part may stand in another.
type class int

const (
	condition class = 1 + iota
	term
	element // a term that a set may hold, too
)

// form is what the parts of one kind hold; what isn't named in it must be zero in them.
type form struct {
	class       class // 0 for a kind that there isn't
	kids        class
	least, most int // how many kids
	text        bool
	low, high   int // between which Num lies
}

// formOf is a row of the chapter's table.
func formOf(kind api.Kind) form {
	switch kind {
	case api.KTrue, api.KFalse:
		return form{class: condition}
	case api.KNot:
		return form{class: condition, kids: condition, least: 1, most: 1}
	case api.KAnd, api.KOr:
		return form{class: condition, kids: condition, least: 2, most: api.MaxParts}
	case api.KCmp:
		return form{class: condition, kids: term, least: 2, most: 2, low: int(api.CmpEq), high: int(api.CmpGe)}
	case api.KIn:
		return form{class: condition, kids: term, least: 2, most: 2, high: 1}
	case api.KNear, api.KApart:
		return form{class: condition, kids: condition, least: 1, most: 1, text: true}
	case api.KTolerated:
		return form{class: condition, text: true}
	case api.KText:
		return form{class: element, text: true}
	case api.KNum:
		return form{class: element, low: -mostNum, high: mostNum}
	case api.KSet:
		return form{class: term, kids: element, most: api.MaxSet}
	case api.KLabel, api.KCap:
		return form{class: term, text: true, low: int(api.OfPod), high: int(api.OfIt)}
	case api.KName, api.KKeys, api.KTaints:
		return form{class: term, low: int(api.OfPod), high: int(api.OfIt)}
	case api.KInt:
		return form{class: term, kids: term, least: 1, most: 1}
	case api.KCount:
		return form{class: term, kids: condition, least: 1, most: 1, text: true}
	}
	return form{}
}

// fits: whether a part holds what its form says, but for which parts its kids are.
func (f form) fits(part api.Part) bool {
	if f.class == 0 || part.Text != "" && !f.text {
		return false
	}
	kids := len(part.Kids)
	return len(part.Text) <= api.MaxText && f.low <= part.Num && part.Num <= f.high && f.least <= kids && kids <= f.most
}

// takes: whether a part of this form may have a kid of that class.
func (f form) takes(kid class) bool {
	return kid == f.kids || kid == element && f.kids == term
}
