package norm_test

import (
	"slices"

	"berth/api"
)

func textTerm(s string) api.Term { return api.Term{Kind: api.TermText, Key: s} }
func labelTerm(side api.Side, s string) api.Term {
	return api.Term{Kind: api.TermLabel, Side: side, Key: s}
}
func nameTerm(side api.Side) api.Term { return api.Term{Kind: api.TermName, Side: side} }
func numTerm(side api.Side, s string) api.Term {
	return api.Term{Kind: api.TermNumber, Side: side, Key: s}
}
func capTerm(s string) api.Term            { return api.Term{Kind: api.TermCap, Key: s} }
func countTerm(s string, sel int) api.Term { return api.Term{Kind: api.TermCount, Key: s, Sel: sel} }

func inTexts(t api.Term, texts ...string) api.Lit {
	return api.Lit{Kind: api.LitIn, Term: t, Texts: texts}
}

func inNums(t api.Term, nums ...int) api.Lit { return api.Lit{Kind: api.LitIn, Term: t, Nums: nums} }

func rel(t api.Term, c api.Cmp, n int) api.Lit {
	return api.Lit{Kind: api.LitRel, Term: t, Rel: c, Num: n}
}

func beside(t api.Term, c api.Cmp, other api.Term) api.Lit {
	return api.Lit{Kind: api.LitPod, Term: t, Rel: c, Other: other}
}

func inKeys(t api.Term, of api.Side) api.Lit { return api.Lit{Kind: api.LitKeys, Term: t, Of: of} }
func inTaints(t api.Term) api.Lit            { return api.Lit{Kind: api.LitTaints, Term: t} }
func tol(effect string) api.Lit              { return api.Lit{Kind: api.LitTol, Key: effect} }
func nearLit(key string, sel int) api.Lit    { return api.Lit{Kind: api.LitNear, Key: key, Sel: sel} }

func lit(l api.Lit) api.PlanPart { return api.PlanPart{Kind: api.PLit, Lit: l} }

func neg(l api.Lit) api.PlanPart { return api.PlanPart{Kind: api.PLit, Neg: true, Lit: l} }

func join(kind api.PlanKind, kids ...int) api.PlanPart { return api.PlanPart{Kind: kind, Kids: kids} }

func constantPart(kind api.PlanKind) api.PlanPart { return api.PlanPart{Kind: kind} }

// plan has this list as its Main.
func plan(main ...api.PlanPart) api.Plan { return api.Plan{Main: main} }

// with is the plan with these selectors.
func with(p api.Plan, sels ...[]api.PlanPart) api.Plan {
	p.Sels = sels
	return p
}

// still are literals that hang on the pod to be placed alone: they may stand in Main and in a selector.
func still() []api.Lit {
	a, b, n, m := labelTerm(api.OfPod, "a"), nameTerm(api.OfPod), numTerm(api.OfPod, "n"), numTerm(api.OfPod, "m")
	out := []api.Lit{inTexts(a), inTexts(b, "", "x", "y"), inNums(n), inNums(n, -most, -1, 0, most), rel(n, api.CmpLe, 3), rel(m, api.CmpGe, 3)}
	for _, c := range []api.Cmp{1, 3, 4, 5, 6} {
		out = append(out, beside(n, c, m))
	}
	for _, t := range []api.Term{textTerm("x"), textTerm(""), a, b} {
		out = append(out, inKeys(t, api.OfPod))
	}
	return append(out, beside(a, api.CmpEq, b), beside(b, api.CmpEq, b))
}

// moving are literals that may stand where side moves.
func moving(side api.Side) []api.Lit {
	a, b, n := labelTerm(side, "a"), nameTerm(side), numTerm(side, "n")
	m, c := numTerm(api.OfPod, "m"), labelTerm(api.OfPod, "c")
	out := []api.Lit{inTexts(a, "x"), inTexts(b), inNums(n, 1, 2), rel(n, api.CmpGe, most+1), rel(n, api.CmpLe, -most-1), beside(n, api.CmpLt, m), beside(a, api.CmpEq, c), beside(b, api.CmpEq, nameTerm(api.OfPod))}
	for _, t := range []api.Term{textTerm("x"), c, nameTerm(api.OfPod)} {
		out = append(out, inKeys(t, side))
	}
	return append(out, inKeys(a, api.OfPod), inKeys(b, api.OfPod))
}

// ofNodes are literals that may stand in Main alone, for a plan with two selectors.
func ofNodes() []api.Lit {
	m := numTerm(api.OfPod, "m")
	out := []api.Lit{tol("any text"), tol(""), nearLit("z", 0), nearLit("", 1), inTaints(textTerm("x")), inTaints(labelTerm(api.OfPod, "a")), inTaints(nameTerm(api.OfPod))}
	for _, t := range []api.Term{capTerm("cpu"), countTerm("z", 0), countTerm("z", 1)} {
		out = append(out, inNums(t, 0, 7), rel(t, api.CmpLe, 5), rel(t, api.CmpGe, -5), beside(t, api.CmpEq, m), beside(t, api.CmpGe, m))
	}
	return out
}

// twoSels are selectors for the samples.
func twoSels() [][]api.PlanPart {
	return [][]api.PlanPart{{constantPart(api.PTrue)}, {neg(inTexts(labelTerm(api.OfIt, "app"), "web"))}}
}

// mainLits are all samples that may stand in Main.
func mainLits() []api.Lit { return slices.Concat(still(), moving(api.OfNode), ofNodes()) }

// selectorLits are all samples that may stand in a selector.
func selectorLits() []api.Lit { return slices.Concat(still(), moving(api.OfIt)) }
