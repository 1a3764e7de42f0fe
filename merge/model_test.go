package merge_test

import (
	"fmt"
	"slices"
	"strings"

	"berth/api"
)

// The rules once more, as the chapter words them: with a POr made as the negation of the PAnd of its negated kids.

// wording is a twig in one text: two are alike just if they are worded alike.
func wording(w twig) string {
	var out strings.Builder
	var put func(w twig)
	put = func(w twig) {
		fmt.Fprint(&out, w.part.Kind, w.part.Neg, "(")
		if w.part.Kind == api.PLit {
			out.WriteString(toldLit(w.part.Lit))
		}
		for _, kid := range w.kids {
			put(kid)
		}
		out.WriteString(")")
	}
	put(w)
	return out.String()
}

// modelled is what M1 to M3 make of a twig; sels are the selectors as they have been made.
func modelled(w twig, sels []twig) twig {
	var kids []twig
	for _, kid := range w.kids {
		kids = append(kids, modelled(kid, sels))
	}
	switch w.part.Kind {
	case api.PAnd:
		return modelAnd(kids)
	case api.POr:
		return not(modelAnd(negated(kids)))
	case api.PLit:
		l := w.part.Lit
		if l.Kind == api.LitIn && len(l.Texts)+len(l.Nums) == 0 || l.Kind == api.LitNear && sels[l.Sel].part.Kind == api.PFalse {
			if w.part.Neg {
				return yes
			}
			return no
		}
	}
	return w
}

func negated(kids []twig) []twig {
	var out []twig
	for _, kid := range kids {
		out = append(out, not(kid))
	}
	return out
}

func isRange(w twig) bool {
	return w.part.Kind == api.PLit && (w.part.Lit.Kind == api.LitIn || w.part.Lit.Kind == api.LitRel)
}

// modelAnd is rule M3.
func modelAnd(kids []twig) twig {
	var flat []twig
	for _, kid := range kids {
		if kid.part.Kind == api.PAnd {
			flat = append(flat, kid.kids...)
		} else {
			flat = append(flat, kid)
		}
	}
	for _, kid := range flat {
		if kid.part.Kind == api.PFalse {
			return no
		}
	}
	flat = slices.DeleteFunc(flat, func(kid twig) bool { return kid.part.Kind == api.PTrue })
	merged, none := modelRanges(flat)
	if none {
		return no
	}
	words := map[string]bool{}
	for _, kid := range merged {
		words[wording(kid)] = true
		if kid.part.Kind == api.PLit && words[wording(not(kid))] {
			return no
		}
	}
	left := modelAbsorption(merged)
	switch len(left) {
	case 0:
		return yes
	case 1:
		return left[0]
	}
	return and(left...)
}

// modelRanges is the third step of M3; true: "none".
func modelRanges(kids []twig) ([]twig, bool) {
	var out []twig
	done := map[api.Term]bool{}
	for i, kid := range kids {
		term := kid.part.Lit.Term
		switch {
		case !isRange(kid):
			out = append(out, kid)
		case !done[term]:
			done[term] = true
			var same []twig
			for _, other := range kids[i:] {
				if isRange(other) && other.part.Lit.Term == term {
					same = append(same, other)
				}
			}
			made, none := modelRange(term, same)
			if none {
				return nil, true
			}
			out = append(out, made...)
		}
	}
	return out, false
}

// hasValue: whether a value (an int or a string) is among a range literal's values.
func hasValue(w twig, value any) bool {
	has := false
	l := w.part.Lit
	switch v := value.(type) {
	case string:
		has = slices.Contains(l.Texts, v)
	case int:
		has = slices.Contains(l.Nums, v) || l.Rel == api.CmpLe && v <= l.Num || l.Rel == api.CmpGe && v >= l.Num
	}
	return has != w.part.Neg
}

// modelRange is rule M4.
func modelRange(term api.Term, all []twig) ([]twig, bool) {
	for _, first := range all {
		if first.part.Lit.Kind != api.LitIn || first.part.Neg {
			continue
		}
		in := lit(api.Lit{Kind: api.LitIn, Term: term})
		for _, v := range first.part.Lit.Texts {
			if !slices.ContainsFunc(all, func(w twig) bool { return !hasValue(w, v) }) {
				in.part.Lit.Texts = append(in.part.Lit.Texts, v)
			}
		}
		for _, v := range first.part.Lit.Nums {
			if !slices.ContainsFunc(all, func(w twig) bool { return !hasValue(w, v) }) {
				in.part.Lit.Nums = append(in.part.Lit.Nums, v)
			}
		}
		return []twig{in}, len(in.part.Lit.Texts)+len(in.part.Lit.Nums) == 0
	}
	if isText(term) {
		union := map[string]bool{}
		for _, w := range all {
			for _, v := range w.part.Lit.Texts {
				union[v] = true
			}
		}
		return []twig{not(texts(term, rising(union)...))}, false
	}
	return modelNumbers(term, all)
}

func rising[T int | string](set map[T]bool) []T {
	var out []T
	for v := range set {
		out = append(out, v)
	}
	slices.Sort(out)
	return out
}

// modelNumbers is the second half of M4.
func modelNumbers(term api.Term, all []twig) ([]twig, bool) {
	var los, his []int
	plain := false
	for _, w := range all {
		l := w.part.Lit
		if l.Kind != api.LitRel {
			continue
		}
		plain = plain || !w.part.Neg
		switch {
		case l.Rel == api.CmpGe && w.part.Neg:
			his = append(his, l.Num-1)
		case l.Rel == api.CmpGe:
			los = append(los, l.Num)
		case w.part.Neg:
			los = append(los, l.Num+1)
		default:
			his = append(his, l.Num)
		}
	}
	hasLo, hasHi := len(los) > 0, len(his) > 0
	lo, hi := 0, 0
	if hasLo {
		lo = slices.Max(los)
	}
	if hasHi {
		hi = slices.Min(his)
	}
	x := map[int]bool{}
	for _, w := range all {
		for _, v := range w.part.Lit.Nums {
			if !(hasLo && v < lo) && !(hasHi && v > hi) {
				x[v] = true
			}
		}
	}
	for ; hasLo && x[lo]; lo++ {
		delete(x, lo)
	}
	for ; hasHi && x[hi]; hi-- {
		delete(x, hi)
	}
	var out []twig
	switch {
	case plain && hasLo && hasHi && lo > hi:
		return nil, true
	case plain && hasLo && hasHi && lo == hi:
		return []twig{nums(term, lo)}, false
	case plain && hasLo && hasHi:
		out = []twig{rel(term, api.CmpGe, lo), rel(term, api.CmpLe, hi)}
	case plain && hasLo:
		out = []twig{rel(term, api.CmpGe, lo)}
	case plain:
		out = []twig{rel(term, api.CmpLe, hi)}
	case hasLo && hasHi:
		out = []twig{not(rel(term, api.CmpLe, lo-1)), not(rel(term, api.CmpGe, hi+1))}
	case hasLo:
		out = []twig{not(rel(term, api.CmpLe, lo-1))}
	case hasHi:
		out = []twig{not(rel(term, api.CmpGe, hi+1))}
	}
	if len(x) > 0 {
		out = append(out, not(nums(term, rising(x)...)))
	}
	return out, false
}

// modelAbsorption is the fifth step of M3.
func modelAbsorption(kids []twig) []twig {
	branches := make([][]string, len(kids))
	for i, kid := range kids {
		of := []twig{kid}
		if kid.part.Kind == api.POr {
			of = kid.kids
		}
		for _, branch := range of {
			branches[i] = append(branches[i], wording(branch))
		}
	}
	within := func(x, y int) bool {
		for _, branch := range branches[x] {
			if !slices.Contains(branches[y], branch) {
				return false
			}
		}
		return true
	}
	var left []twig
	for y, kid := range kids {
		goes := false
		for x := range kids {
			goes = goes || x != y && within(x, y) && (!within(y, x) || x < y)
		}
		if !goes {
			left = append(left, kid)
		}
	}
	return left
}

// renumbered is a twig whose literals have other selectors.
func renumbered(w twig, place func(int) int) twig {
	if w.part.Lit.Kind == api.LitNear {
		w.part.Lit.Sel = place(w.part.Lit.Sel)
	}
	if w.part.Lit.Term.Kind == api.TermCount {
		w.part.Lit.Term.Sel = place(w.part.Lit.Term.Sel)
	}
	w.kids = slices.Clone(w.kids)
	for i := range w.kids {
		w.kids[i] = renumbered(w.kids[i], place)
	}
	return w
}

// modelPlan is what rule M5 makes of a valid plan.
func modelPlan(p api.Plan) api.Plan {
	var sels []twig
	for _, sel := range p.Sels {
		sels = append(sels, modelled(grown(sel), nil))
	}
	main := renumbered(grown(p.Main), func(old int) int {
		for first, sel := range sels {
			if wording(sel) == wording(sels[old]) {
				return first
			}
		}
		return old
	})
	main = modelled(main, sels)
	var left []twig
	places := map[int]int{}
	main = renumbered(main, func(old int) int {
		if _, has := places[old]; !has {
			places[old] = len(left)
			left = append(left, sels[old])
		}
		return places[old]
	})
	return plan(main, left...)
}
