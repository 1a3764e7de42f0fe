package gen_test

import (
	"math"
	"slices"
	"strings"
	"testing"

	"berth/api"
	"berth/share"
)

func litsOf(samples []sample) []api.Lit {
	var out []api.Lit
	for _, x := range samples {
		out = append(out, x.l)
	}
	return out
}

// wrongAnywhere are literals that chapter 16 allows nowhere, where the place 0 is that of a selector.
func wrongAnywhere() []api.Lit {
	pod, long := api.OfPod, strings.Repeat("k", 128)
	x, n, m := labelTerm(pod, "a"), numTerm(pod, "n"), numTerm(pod, "m")
	return []api.Lit{
		{}, {Kind: 8}, {Kind: -1}, {Kind: math.MaxInt}, {Kind: math.MinInt},
		texts(textTerm("a"), "a"), texts(api.Term{}), texts(api.Term{Kind: 7}), texts(x, "y", "x"), texts(x, "x", "x"), texts(n, "x"), nums(x, 1),
		nums(n, 2, 1), nums(n, 1, 1), nums(n, most+1), nums(n, -most-1), nums(n, math.MinInt, math.MaxInt), {Kind: api.LitIn, Term: x, Texts: []string{"a"}, Nums: []int{1}},
		rel(n, api.CmpLe, most+1), rel(n, api.CmpLe, -most-2), rel(n, api.CmpGe, most+2), rel(n, api.CmpGe, -most-1), rel(n, api.CmpLt, 1), rel(n, api.CmpEq, 1), rel(n, api.CmpNe, 1), rel(n, 0, 1), rel(n, 7, 1), rel(x, api.CmpLe, 1),
		beside(x, api.CmpLe, x), beside(x, api.CmpNe, x), beside(x, api.CmpEq, m), beside(x, api.CmpEq, textTerm("b")), beside(x, api.CmpEq, api.Term{}), beside(textTerm("a"), api.CmpEq, x), beside(n, api.CmpNe, m), beside(n, 7, m), beside(n, 0, m), beside(n, api.CmpEq, capTerm("b")), beside(n, api.CmpEq, countTerm("b", 0)), beside(n, api.CmpEq, numTerm(api.OfNode, "n")), beside(x, api.CmpEq, labelTerm(api.OfIt, "a")),
		inKeys(x, 0), inKeys(x, 4), inKeys(textTerm("a"), -1), inKeys(n, pod), inKeys(capTerm("a"), pod), inTaints(n), inTaints(api.Term{}), inTaints(labelTerm(api.OfNode, "a")), inTaints(nameTerm(api.OfIt)),
		texts(api.Term{Kind: api.TermLabel, Key: "a"}), texts(labelTerm(4, "a")), texts(api.Term{Kind: api.TermName, Side: pod, Key: "a"}), texts(api.Term{Kind: api.TermName, Side: pod, Sel: 1}), nums(api.Term{Kind: api.TermCap, Side: pod, Key: "c"}), inKeys(api.Term{Kind: api.TermText, Side: pod, Key: "c"}, pod),
		texts(labelTerm(pod, long)), texts(x, long), nums(numTerm(pod, long)), beside(x, api.CmpEq, labelTerm(pod, long)), inKeys(textTerm(long), pod), tol(long), near(long, 0), nums(countTerm(long, 0)), rel(capTerm(long), api.CmpLe, 1), inTaints(textTerm(long)),
		{Kind: api.LitTol, Key: "x", Num: 1}, {Kind: api.LitTol, Key: "x", Sel: 1}, {Kind: api.LitTol, Term: countTerm("x", 0), Key: "x"}, {Kind: api.LitNear, Key: "x", Term: countTerm("x", 0)}, {Kind: api.LitNear, Key: "x", Of: api.OfIt}, {Kind: api.LitIn, Term: countTerm("x", 0), Nums: []int{1}, Sel: 1},
	}
}

// pointsAlone are dags that break one of chapter 18's five points and no other, by the point.
func pointsAlone() map[int][]api.Dag {
	filled := func(kind api.DagKind, l api.Lit, kids ...int) api.DagPart {
		return api.DagPart{Kind: kind, Lit: l, Kids: kids}
	}
	out := map[int][]api.Dag{
		1: {dag(slices.Repeat([]api.DagPart{yes}, 2001)...), dag(yes, node(api.DAnd, make([]int, 2001)...)), dag(yes, node(api.DAnd, make([]int, 1000)...), node(api.DOr, make([]int, 1000)...), node(api.DNot, 0)), rooted(0, append([]api.DagPart{a}, slices.Repeat([]api.DagPart{yes}, 2000)...)...)},
		2: {
			dag(node(0)), dag(node(7)), dag(node(-1)), dag(yes, node(7, 0)), dag(yes, node(0, 0, 0)), dag(node(math.MaxInt)), rooted(0, yes, node(math.MinInt)),
			dag(yes, node(api.DTrue, 0)), dag(yes, node(api.DFalse, 0)), dag(yes, filled(api.DLit, a.Lit, 0)), dag(node(api.DNot)), dag(yes, node(api.DNot, 0, 0)), dag(node(api.DAnd)), dag(node(api.DOr)), dag(yes, node(api.DAnd, 0)), dag(yes, node(api.DOr, 0)),
			dag(yes, node(api.DNot, 1)), rooted(1, yes, node(api.DNot, 2), yes), dag(node(api.DNot, 0)), dag(yes, node(api.DAnd, 0, 1)), rooted(1, yes, node(api.DOr, 2, 0), yes), rooted(0, node(api.DNot, 1), node(api.DNot, 0)),
			dag(s, node(api.DNot, 0)), dag(s, yes, node(api.DAnd, 1, 0)), dag(s, yes, node(api.DOr, 0, 1)), rooted(0, yes, forPods(node(api.DNot, 0))), rooted(0, yes, s, forPods(node(api.DAnd, 1, 0))),
			dag(filled(api.DTrue, a.Lit)), dag(filled(api.DFalse, api.Lit{Kind: api.LitTol})), dag(yes, filled(api.DNot, a.Lit, 0)), dag(yes, filled(api.DAnd, api.Lit{Num: 1}, 0, 0)), dag(yes, filled(api.DOr, api.Lit{Texts: []string{""}}, 0, 0)), dag(s, filled(api.DTrue, api.Lit{Kind: api.LitNear})), dag(s, filled(api.DFalse, api.Lit{Term: countTerm("", 0)})),
		},
		3: {
			dag(yes, leaf(near("z", 0))), dag(s, leaf(near("z", 1))), rooted(1, s, leaf(near("z", 2)), s), dag(s, leaf(near("z", 2))), dag(s, yes, leaf(near("z", 1))), dag(leaf(near("z", 0))),
			dag(yes, leaf(counted(0, 1))), dag(s, leaf(counted(1, 1))), rooted(1, s, leaf(counted(2, 1)), s), dag(s, yes, leaf(counted(1, 1))), dag(leaf(counted(0, 1))), dag(leaf(counted(0))),
		},
		4: {dag(leaf(cores(upTo(1001)...))), dag(leaf(zone(words(1001)...))), dag(leaf(cores(upTo(500)...)), leaf(zone(words(501)...)), node(api.DAnd, 0, 1)), rooted(0, yes, leaf(cores(upTo(999)...)), leaf(cores(1, 2)))},
		5: {rooted(1, yes), rooted(2, yes, yes), rooted(-1, yes), rooted(0, s), rooted(1, yes, s), rooted(0, s, yes), rooted(0, s, leaf(near("z", 0))), rooted(2, s, leaf(near("z", 0)), forPods(node(api.DNot, 0)))},
	}
	for _, place := range []int{-1, math.MinInt, math.MaxInt} {
		out[2] = append(out[2], dag(yes, node(api.DNot, place)), dag(yes, node(api.DAnd, 0, place)), dag(yes, node(api.DOr, place, 0)))
		out[3] = append(out[3], dag(s, leaf(near("z", place))), dag(s, leaf(counted(place, 1))), dag(s, leaf(rel(countTerm("z", place), api.CmpLe, 1))))
		out[5] = append(out[5], rooted(place, yes))
	}
	for _, l := range slices.Concat(wrongAnywhere(), litsOf(movingSamples(api.OfIt))) {
		out[3] = append(out[3], dag(s, leaf(l)), rooted(1, s, yes, leaf(l)))
	}
	for _, l := range slices.Concat(wrongAnywhere(), litsOf(movingSamples(api.OfNode)), litsOf(nodeSamples())) {
		out[3] = append(out[3], dag(s, forPods(leaf(l)), leaf(near("z", 1))), rooted(1, s, yes, forPods(leaf(l))))
	}
	return out
}

// P19.1, R3: dags that break each of the five points alone, where the Root reaches it and where it doesn't.
func TestEachPointAlone(t *testing.T) {
	refused(t, api.Dag{}, api.ErrDag)
	refused(t, api.Dag{Parts: []api.DagPart{}}, api.ErrDag)
	for point, dags := range pointsAlone() {
		for i, x := range dags {
			if share.Valid(x) {
				t.Errorf("point %d, dag %d: %s is valid", point, i, short(toldDag(x)))
			}
			refused(t, x, api.ErrDag)
		}
	}
}

// P19.1: the dags at the edges of the points are taken.
func TestEdgesOfThePoints(t *testing.T) {
	for _, x := range []api.Dag{
		dag(slices.Repeat([]api.DagPart{yes}, 2000)...),
		dag(yes, node(api.DAnd, make([]int, 2000)...)),
		dag(leaf(cores(upTo(1000)...))),
		dag(leaf(cores(-most, most))),
		dag(leaf(tol(strings.Repeat("k", 127)))),
		dag(leaf(zone(strings.Repeat("k", 127)))),
		rooted(0, yes, s, forPods(node(api.DNot, 1))),
		dag(s, s, yes, yes, leaf(near("z", 1)), node(api.DAnd, 4, 4, 3)),
	} {
		check(t, x)
	}
}
