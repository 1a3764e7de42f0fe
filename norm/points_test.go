package norm_test

import (
	"fmt"
	"reflect"
	"slices"
	"testing"

	"berth/api"
	"berth/norm"
)

// broken are the points of 'Which plans are valid' that a plan breaks, for nodes (OfNode) or for pods (OfIt), one by one; 0 stands for Sels of a plan for pods.
func broken(p api.Plan, scope api.Side) []int {
	out := map[int]bool{}
	if scope == api.OfIt && len(p.Sels) > 0 {
		out[0] = true
	}
	if measure(p) > 1000 {
		out[3] = true
	}
	look := func(list []api.PlanPart, moves api.Side) {
		if !inPostorder(list) {
			out[1] = true
		}
		for _, part := range list {
			l := lookout{part.Lit, moves, len(p.Sels)}
			if moves == api.OfIt {
				l.sels = 0
			}
			for point, right := range map[int]bool{2: rightKind(part), 4: l.sides(), 5: l.terms(), 6: part.Kind != api.PLit || l.fields(), 7: l.lengths()} {
				if !right {
					out[point] = true
				}
			}
		}
	}
	look(p.Main, scope)
	for _, list := range p.Sels {
		look(list, api.OfIt)
	}
	var points []int
	for point := range 8 {
		if out[point] {
			points = append(points, point)
		}
	}
	return points
}

// inPostorder walks from the last part on and writes down what it meets; a walk that goes on too long goes in rings or meets a part twice.
func inPostorder(list []api.PlanPart) bool {
	var order []int
	steps := 0
	var walk func(at int) bool
	walk = func(at int) bool {
		if steps++; at < 0 || at >= len(list) || steps > len(list) {
			return false
		}
		for _, kid := range list[at].Kids {
			if !walk(kid) {
				return false
			}
		}
		order = append(order, at)
		return true
	}
	if len(list) == 0 || !walk(len(list)-1) || len(order) != len(list) {
		return false
	}
	return slices.Equal(order, upTo(len(list)))
}

func noLists(l api.Lit) api.Lit {
	l.Texts, l.Nums = nil, nil
	return l
}

func isZero(l api.Lit) bool {
	return len(l.Texts) == 0 && len(l.Nums) == 0 && reflect.DeepEqual(noLists(l), api.Lit{})
}

func rightKind(part api.PlanPart) bool {
	switch part.Kind {
	case api.PTrue, api.PFalse:
		return len(part.Kids) == 0 && !part.Neg && isZero(part.Lit)
	case api.PAnd, api.POr:
		return len(part.Kids) >= 2 && !part.Neg && isZero(part.Lit)
	case api.PLit:
		return len(part.Kids) == 0
	}
	return false
}

// lookout looks at a literal where moves is the side that may stand beside OfPod.
type lookout struct {
	api.Lit
	moves api.Side
	sels  int
}

// sides is the fourth point.
func (l lookout) sides() bool {
	wrong := api.OfNode + api.OfIt - l.moves
	if l.Term.Side == wrong || l.Other.Side == wrong || l.Of == wrong {
		return false
	}
	if l.moves == api.OfNode {
		return true
	}
	barred := []api.TermKind{api.TermCap, api.TermCount}
	return l.Kind != api.LitTaints && l.Kind != api.LitTol && l.Kind != api.LitNear && !slices.Contains(barred, l.Term.Kind) && !slices.Contains(barred, l.Other.Kind)
}

// terms is the fifth point.
func (l lookout) terms() bool {
	place := func(sel int) bool { return sel >= 0 && sel < l.sels }
	for _, t := range []api.Term{l.Term, l.Other} {
		sided := t.Kind == api.TermLabel || t.Kind == api.TermName || t.Kind == api.TermNumber
		if sided != (t.Side != 0) || t.Side < 0 || t.Side > 3 || t.Kind == api.TermName && t.Key != "" {
			return false
		}
		if t.Kind == api.TermCount && !place(t.Sel) || t.Kind != api.TermCount && t.Sel != 0 {
			return false
		}
	}
	return l.Kind == api.LitNear && place(l.Sel) || l.Kind != api.LitNear && l.Sel == 0
}

func isText(t api.Term) bool { return t.Kind == api.TermLabel || t.Kind == api.TermName }

func isNumber(t api.Term) bool {
	return t.Kind == api.TermNumber || t.Kind == api.TermCap || t.Kind == api.TermCount
}

const most = 999_999_999_999_999_999

// fields is the sixth point.
func (l lookout) fields() bool {
	has := map[string]bool{}
	v := reflect.ValueOf(l.Lit)
	for i := range v.NumField() {
		f := v.Field(i)
		if f.Kind() == reflect.Slice && f.Len() > 0 || f.Kind() != reflect.Slice && !f.IsZero() {
			has[v.Type().Field(i).Name] = true
		}
	}
	only := func(names ...string) bool {
		n := 0
		for _, name := range append(names, "Kind") {
			if has[name] {
				n++
			}
		}
		return n == len(has)
	}
	still := l.Term.Kind == api.TermText || isText(l.Term) && l.Term.Side == api.OfPod
	switch l.Kind {
	case api.LitIn:
		return isText(l.Term) && only("Term", "Texts") && rise(l.Texts) || isNumber(l.Term) && only("Term", "Nums") && rise(l.Nums) && !slices.ContainsFunc(l.Nums, func(n int) bool { return n < -most || n > most })
	case api.LitRel:
		return isNumber(l.Term) && only("Term", "Rel", "Num") && (l.Rel == api.CmpLe && -most-1 <= l.Num && l.Num <= most || l.Rel == api.CmpGe && -most <= l.Num && l.Num <= most+1)
	case api.LitPod:
		texts := isText(l.Term) && l.Rel == api.CmpEq && isText(l.Other)
		nums := isNumber(l.Term) && slices.Contains([]api.Cmp{1, 3, 4, 5, 6}, l.Rel) && l.Other.Kind == api.TermNumber
		return only("Term", "Rel", "Other") && l.Other.Side == api.OfPod && (texts || nums)
	case api.LitKeys:
		any := l.Of == api.OfPod && (l.Term.Kind == api.TermText || isText(l.Term))
		return only("Term", "Of") && (any || (l.Of == api.OfNode || l.Of == api.OfIt) && still)
	case api.LitTaints:
		return only("Term") && still
	case api.LitTol:
		return only("Key")
	case api.LitNear:
		return only("Key", "Sel")
	}
	return false
}

func rise[T int | string](list []T) bool {
	for i := range list {
		for j := range i {
			if list[j] >= list[i] {
				return false
			}
		}
	}
	return true
}

// lengths is the seventh point.
func (l lookout) lengths() bool {
	for _, s := range append([]string{l.Key, l.Term.Key, l.Other.Key}, l.Texts...) {
		if len(s) > 127 {
			return false
		}
	}
	return true
}

// checkValid holds Valid against the seven points; it answers whether the plan is valid for nodes, for pods.
func checkValid(t *testing.T, p api.Plan) (bool, bool) {
	t.Helper()
	nodes, pods := broken(p, api.OfNode), broken(p, api.OfIt)
	want := len(nodes) == 0 || len(pods) == 0
	if got := norm.Valid(p); got != want {
		s := fmt.Sprintf("%+v", p)
		t.Fatalf("Valid(%s) = %v; for nodes it breaks %v, for pods %v", s[:min(len(s), 2000)], got, nodes, pods)
	}
	return len(nodes) == 0, len(pods) == 0
}
