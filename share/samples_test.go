package share_test

import (
	"slices"

	"berth/api"
)

// still are literals that hang on the pod to be placed alone: they may stand in Main and in a selector.
func still() []twig {
	x, y, n, m := labelTerm(api.OfPod, "a"), nameTerm(api.OfPod), numTerm(api.OfPod, "n"), numTerm(api.OfPod, "m")
	out := []twig{texts(x), texts(y, "", "x", "y"), nums(n), nums(n, -most, -1, 0, most), rel(n, api.CmpLe, 3), rel(m, api.CmpGe, 3)}
	for _, c := range []api.Cmp{1, 3, 4, 5, 6} {
		out = append(out, beside(n, c, m))
	}
	for _, term := range []api.Term{textTerm("x"), textTerm(""), x, y} {
		out = append(out, inKeys(term, api.OfPod))
	}
	return append(out, beside(x, api.CmpEq, y), beside(y, api.CmpEq, y))
}

// moving are literals that may stand where side moves.
func moving(side api.Side) []twig {
	x, y, n := labelTerm(side, "a"), nameTerm(side), numTerm(side, "n")
	m, z := numTerm(api.OfPod, "m"), labelTerm(api.OfPod, "c")
	out := []twig{texts(x, "x"), texts(y), nums(n, 1, 2), rel(n, api.CmpGe, most+1), rel(n, api.CmpLe, -most-1), beside(n, api.CmpLt, m), beside(x, api.CmpEq, z), beside(y, api.CmpEq, nameTerm(api.OfPod))}
	for _, term := range []api.Term{textTerm("x"), z, nameTerm(api.OfPod)} {
		out = append(out, inKeys(term, side))
	}
	return append(out, inKeys(x, api.OfPod), inKeys(y, api.OfPod))
}

// ofNodes are literals that may stand in Main alone, where there are selectors in the places 0 and 1.
func ofNodes() []twig {
	m := numTerm(api.OfPod, "m")
	out := []twig{tol("any text"), tol(""), near("z", 0), near("", 1), inTaints(textTerm("x")), inTaints(labelTerm(api.OfPod, "a")), inTaints(nameTerm(api.OfPod))}
	for _, term := range []api.Term{capTerm("cpu"), countTerm("z", 0), countTerm("z", 1)} {
		out = append(out, nums(term, 0, 7), rel(term, api.CmpLe, 5), rel(term, api.CmpGe, -5), beside(term, api.CmpEq, m), beside(term, api.CmpGe, m))
	}
	return out
}

// mainLits are all samples that may stand in Main, selectorLits all that may in a selector.
func mainLits() []twig { return slices.Concat(still(), moving(api.OfNode), ofNodes()) }

func selectorLits() []twig { return slices.Concat(still(), moving(api.OfIt)) }

// nearlyAlike are pairs of literals that differ in one thing alone.
func nearlyAlike() [][2]twig {
	m, unkeyed := numTerm(api.OfPod, "m"), labelTerm(api.OfNode, "")
	own := func(key string) api.Term { return labelTerm(api.OfPod, key) }
	n := numTerm(api.OfNode, "n")
	return [][2]twig{
		{tol("x"), tol("y")},
		{tol("x"), near("x", 0)},
		{near("x", 0), near("x", 1)},
		{near("x", 0), near("y", 0)},
		{inTaints(textTerm("x")), inTaints(own("x"))},
		{inTaints(textTerm("")), inTaints(nameTerm(api.OfPod))},
		{inKeys(textTerm("x"), api.OfNode), inKeys(textTerm("x"), api.OfPod)},
		{inKeys(textTerm("x"), api.OfNode), inTaints(textTerm("x"))},
		{beside(capTerm("x"), api.CmpLe, m), beside(countTerm("x", 0), api.CmpLe, m)},
		{beside(countTerm("x", 1), api.CmpLe, m), beside(countTerm("x", 0), api.CmpLe, m)},
		{beside(n, api.CmpLe, m), beside(n, api.CmpLt, m)},
		{beside(n, api.CmpLe, m), beside(n, api.CmpLe, numTerm(api.OfPod, "n"))},
		{beside(m, api.CmpLe, m), beside(numTerm(api.OfNode, "m"), api.CmpLe, m)},
		{beside(unkeyed, api.CmpEq, own("x")), beside(nameTerm(api.OfNode), api.CmpEq, own("x"))},
		{beside(unkeyed, api.CmpEq, own("")), beside(unkeyed, api.CmpEq, nameTerm(api.OfPod))},
		{zone("a", "bc"), zone("ab", "c")},
		{zone("a", "b"), zone("ab")},
		{zone("a"), zone("a", "b")},
		{zone(), zone("")},
		{zone(" "), zone("", " ")},
		{zone("1 a"), zone("1", "a")},
		{zone("1"), texts(labelTerm(api.OfNode, "rack"), "1")},
		{zone(), nums(numTerm(api.OfNode, "zone"))},
		{cores(-1, 12), cores(-11, 2)},
		{cores(1, 2), cores(12)},
		{cores(1), cores(1, 2)},
		{cores(), cores(0)},
		{rel(n, api.CmpGe, 1), rel(n, api.CmpLe, 1)},
		{rel(n, api.CmpGe, 1), rel(n, api.CmpGe, 2)},
		{rel(n, api.CmpGe, 1), rel(n, api.CmpGe, -1)},
	}
}
