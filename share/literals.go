package share

import "berth/api"

// numbered is a literal whose selector, if it has one, has got another place.
func numbered(l api.Lit, place func(selector int) int) api.Lit {
	if l.Kind == api.LitNear {
		l.Sel = place(l.Sel)
	}
	if l.Term.Kind == api.TermCount {
		l.Term.Sel = place(l.Term.Sel)
	}
	return l
}

// ownLists is a literal that shares no list with l.
func ownLists(l api.Lit) api.Lit {
	l.Texts, l.Nums = copied(l.Texts), copied(l.Nums)
	return l
}

// copied holds on to nothing of the list, not even to the room behind an empty one.
func copied[T any](list []T) []T {
	if len(list) == 0 {
		return nil
	}
	out := make([]T, len(list))
	copy(out, list)
	return out
}
