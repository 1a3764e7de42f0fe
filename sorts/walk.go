package sorts

import (
	"strconv"

	"berth/api"
)

// walk goes over a valid tree; types are right at all places that it has left behind.
type walk struct {
	parts []api.Part
	types []api.Type
}

// over looks at all that stands in a part and then at the part. In a list in postorder that is from the first place to the last, so the first fault that is met is the one to tell.
func (w walk) over(at int, scope api.Side) error {
	part := w.parts[at]
	for _, kid := range part.Kids {
		if err := w.over(kid, scopeIn(part.Kind, scope)); err != nil {
			return inside{at, err}
		}
	}
	if err := w.broken(at, scope); err != nil {
		return err
	}
	w.types[at] = api.Type{Sort: w.sortOf(part), Side: w.sideOf(part)}
	return nil
}

// scopeIn is the scope of the kids of a part that has this kind and this scope.
func scopeIn(kind api.Kind, scope api.Side) api.Side {
	if selects(kind) {
		return api.OfIt
	}
	return scope
}

// selects: whether the kid of a part of this kind is a selector.
func selects(kind api.Kind) bool {
	return kind == api.KNear || kind == api.KApart || kind == api.KCount
}

// inside is an error on its way up to the face: the part in which it was met goes with it.
type inside struct {
	part int
	err  error
}

func (i inside) Error() string { return "in part " + strconv.Itoa(i.part) + ": " + i.err.Error() }

func (i inside) Unwrap() error { return i.err }
