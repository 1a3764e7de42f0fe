package merge

import (
	"slices"

	"berth/api"
)

// selectors are a plan's selectors as they have been made, each at its old place.
type selectors []*piece

// selectors: in a selector stands no selector, so each is made without any.
func (m maker) selectors(lists [][]api.PlanPart) selectors {
	var made selectors
	for _, list := range lists {
		made = append(made, m.whole(list, nil))
	}
	return made
}

// firstAlike is the place of the selector that stands for the one at this place wherever that is asked for.
func (s selectors) firstAlike(place int) int {
	isAlike := func(other *piece) bool { return other.number == s[place].number }
	return slices.IndexFunc(s, isAlike)
}

// numbered is a literal whose selector, if it speaks of one, has got another place.
func numbered(l api.Lit, place func(int) int) api.Lit {
	if l.Kind == api.LitNear {
		l.Sel = place(l.Sel)
	}
	if l.Term.Kind == api.TermCount {
		l.Term.Sel = place(l.Term.Sel)
	}
	return l
}
