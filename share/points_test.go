package share_test

import (
	"reflect"
	"slices"
	"testing"

	"berth/api"
	"berth/share"
)

// broken are the points of 'Which dags are valid' that a dag breaks, one by one.
func broken(d api.Dag) []int {
	out := map[int]bool{}
	kids, elements := 0, 0
	for at, part := range d.Parts {
		kids += len(part.Kids)
		elements += len(part.Lit.Texts) + len(part.Lit.Nums)
		if !rightKind(part) || !rightKids(d, at) {
			out[2] = true
		}
		if part.Kind == api.DLit && !rightLit(d, at) {
			out[3] = true
		}
	}
	if len(d.Parts) == 0 || len(d.Parts) > 2000 || kids > 2000 {
		out[1] = true
	}
	if elements > 1000 {
		out[4] = true
	}
	if d.Root < 0 || d.Root >= len(d.Parts) || d.Parts[d.Root].Pods {
		out[5] = true
	}
	var points []int
	for point := range 6 {
		if out[point] {
			points = append(points, point)
		}
	}
	return points
}

func isZero(l api.Lit) bool { return len(namesOf(l)) == 0 }

func rightKind(part api.DagPart) bool {
	n := len(part.Kids)
	switch part.Kind {
	case api.DTrue, api.DFalse:
		return n == 0 && isZero(part.Lit)
	case api.DLit:
		return n == 0
	case api.DNot:
		return n == 1 && isZero(part.Lit)
	case api.DAnd, api.DOr:
		return n >= 2 && isZero(part.Lit)
	}
	return false
}

func rightKids(d api.Dag, at int) bool {
	for _, kid := range d.Parts[at].Kids {
		if kid < 0 || kid >= at || d.Parts[kid].Pods != d.Parts[at].Pods {
			return false
		}
	}
	return true
}

// rightLit: chapter 16, rules 4 to 7, for the literal of a part.
func rightLit(d api.Dag, at int) bool {
	l := lookout{d.Parts[at].Lit, api.OfNode, func(sel int) bool { return sel >= 0 && sel < at && d.Parts[sel].Pods }}
	if d.Parts[at].Pods {
		l.moves = api.OfIt
	}
	return l.sides() && l.terms() && l.fields() && l.lengths()
}

// lookout looks at a literal where moves is the side that may stand beside OfPod, and selects tells which places are those of selectors.
type lookout struct {
	api.Lit
	moves   api.Side
	selects func(sel int) bool
}

// sides is the fourth rule.
func (l lookout) sides() bool {
	wrong := api.OfNode + api.OfIt - l.moves
	if l.Term.Side == wrong || l.Other.Side == wrong || l.Of == wrong {
		return false
	}
	if l.moves == api.OfNode {
		return true
	}
	barred := []api.TermKind{api.TermCap, api.TermCount}
	return l.Kind != api.LitTaints && l.Kind != api.LitTol && l.Kind != api.LitNear && !slices.Contains(barred, l.Term.Kind) && !slices.Contains(barred, l.Other.Kind)
}

// terms is the fifth rule.
func (l lookout) terms() bool {
	for _, t := range []api.Term{l.Term, l.Other} {
		sided := t.Kind == api.TermLabel || t.Kind == api.TermName || t.Kind == api.TermNumber
		if sided != (t.Side != 0) || t.Side < 0 || t.Side > 3 || t.Kind == api.TermName && t.Key != "" {
			return false
		}
		if t.Kind == api.TermCount && !l.selects(t.Sel) || t.Kind != api.TermCount && t.Sel != 0 {
			return false
		}
	}
	return l.Kind == api.LitNear && l.selects(l.Sel) || l.Kind != api.LitNear && l.Sel == 0
}

// namesOf are the names of the fields that aren't zero; an empty list is.
func namesOf(l api.Lit) []string {
	var names []string
	value := reflect.ValueOf(l)
	for i := range value.NumField() {
		f := value.Field(i)
		if f.Kind() == reflect.Slice && f.Len() > 0 || f.Kind() != reflect.Slice && !f.IsZero() {
			names = append(names, value.Type().Field(i).Name)
		}
	}
	return names
}

// fields is the sixth rule.
func (l lookout) fields() bool {
	only := func(names ...string) bool {
		return !slices.ContainsFunc(namesOf(l.Lit), func(name string) bool { return name != "Kind" && !slices.Contains(names, name) })
	}
	far := func(n int) bool { return n < -most || n > most }
	still := l.Term.Kind == api.TermText || isText(l.Term) && l.Term.Side == api.OfPod
	switch l.Kind {
	case api.LitIn:
		return isText(l.Term) && only("Term", "Texts") && rise(l.Texts) || isNumber(l.Term) && only("Term", "Nums") && rise(l.Nums) && !slices.ContainsFunc(l.Nums, far)
	case api.LitRel:
		return isNumber(l.Term) && only("Term", "Rel", "Num") && (l.Rel == api.CmpLe && -most-1 <= l.Num && l.Num <= most || l.Rel == api.CmpGe && -most <= l.Num && l.Num <= most+1)
	case api.LitPod:
		texts := isText(l.Term) && l.Rel == api.CmpEq && isText(l.Other)
		nums := isNumber(l.Term) && slices.Contains([]api.Cmp{1, 3, 4, 5, 6}, l.Rel) && l.Other.Kind == api.TermNumber
		return only("Term", "Rel", "Other") && l.Other.Side == api.OfPod && (texts || nums)
	case api.LitKeys:
		any := l.Of == api.OfPod && (l.Term.Kind == api.TermText || isText(l.Term))
		return only("Term", "Of") && (any || (l.Of == api.OfNode || l.Of == api.OfIt) && still)
	case api.LitTaints:
		return only("Term") && still
	case api.LitTol:
		return only("Key")
	case api.LitNear:
		return only("Key", "Sel")
	}
	return false
}

func rise[T int | string](list []T) bool {
	for i := range max(1, len(list)) - 1 {
		if list[i] >= list[i+1] {
			return false
		}
	}
	return true
}

// lengths is the seventh rule.
func (l lookout) lengths() bool {
	for _, s := range append([]string{l.Key, l.Term.Key, l.Other.Key}, l.Texts...) {
		if len(s) > 127 {
			return false
		}
	}
	return true
}

// checkValid holds Valid against the five points.
func checkValid(t *testing.T, d api.Dag) bool {
	t.Helper()
	points := broken(d)
	got := share.Valid(d)
	if got != (len(points) == 0) {
		t.Fatalf("Valid(%s) = %v; it breaks %v", shortDag(d), got, points)
	}
	return got
}
