package norm

import (
	"cmp"

	"berth/api"
)

// beyond is the least number that has more than api.MaxNumDigits digits.
const beyond = 1_000_000_000_000_000_000

// far: whether no source can hold the number.
func far(n int) bool { return n <= -beyond || beyond <= n }

// bounded: whether a bound may be this number. CmpLt of the least number that a source can hold, and CmpGt of the greatest one, lie one beyond, each on its own end.
func bounded(rel api.Cmp, n int) bool {
	switch rel {
	case api.CmpLe:
		return n == -beyond || !far(n)
	case api.CmpGe:
		return n == beyond || !far(n)
	}
	return false
}

func long(s string) bool { return len(s) > api.MaxText }

func short(s string) bool { return !long(s) }

// rises: whether each element is above the one ahead of it.
func rises[T cmp.Ordered](list []T) bool {
	for i := 1; i < len(list); i++ {
		if list[i] <= list[i-1] {
			return false
		}
	}
	return true
}

// knows: whether something of this side may be spoken of here.
func (p place) knows(side api.Side) bool { return side == api.OfPod || side == p.moves }

// takesText: whether this is a label or a name of which may be spoken here.
func (p place) takesText(t api.Term) bool {
	switch t.Kind {
	case api.TermLabel:
		return p.knows(t.Side) && short(t.Key) && t.Sel == 0
	case api.TermName:
		return p.knows(t.Side) && t.Key == "" && t.Sel == 0
	}
	return false
}

// takesNumber: whether this is a number term of which may be spoken here.
func (p place) takesNumber(t api.Term) bool {
	if long(t.Key) {
		return false
	}
	ofNode := p.moves == api.OfNode && t.Side == api.Fixed
	switch t.Kind {
	case api.TermNumber:
		return p.knows(t.Side) && t.Sel == 0
	case api.TermCap:
		return ofNode && t.Sel == 0
	case api.TermCount:
		return ofNode && p.has(t.Sel)
	}
	return false
}

// takesSought: whether this is a text that may be sought among the keys of what moves: one that does not move itself.
func (p place) takesSought(t api.Term) bool {
	if t.Kind == api.TermText {
		return t.Side == api.Fixed && short(t.Key) && t.Sel == 0
	}
	return t.Side == api.OfPod && p.takesText(t)
}
