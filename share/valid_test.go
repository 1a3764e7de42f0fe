package share_test

import (
	"fmt"
	"math"
	"slices"
	"strings"
	"testing"

	"berth/api"
	"berth/share"
)

// expectValid: whether a dag is valid.
func expectValid(t *testing.T, d api.Dag, want bool) {
	t.Helper()
	if checkValid(t, d) != want {
		t.Errorf("%s: it breaks %v", shortDag(d), broken(d))
	}
}

// P18.1: dags of each kind of part, with doubles, unreached parts and two kids in one place.
func TestValidDags(t *testing.T) {
	for _, x := range []api.Dag{
		dag(node(api.DTrue)), dag(node(api.DFalse)), dag(leaf(a)), dag(leaf(zone("x", "y"))), dag(leaf(zone())),
		dag(leaf(a), node(api.DNot, 0)), dag(leaf(a), node(api.DNot, 0), node(api.DNot, 1)),
		dag(node(api.DTrue), node(api.DNot, 0)), dag(leaf(a), leaf(b), node(api.DAnd, 0, 1)), dag(leaf(a), leaf(b), node(api.DOr, 1, 0), node(api.DNot, 2)),
		dag(leaf(a), node(api.DAnd, 0, 0)), dag(leaf(a), node(api.DOr, 0, 0, 0)), dag(leaf(a), leaf(a), node(api.DAnd, 0, 1), node(api.DAnd, 0, 1)),
		rooted(0, leaf(a), leaf(b)), rooted(1, leaf(a), leaf(b), leaf(c)), rooted(1, forPods(leaf(s)), leaf(a), forPods(leaf(u))),
		dag(forPods(leaf(s)), leaf(near("z", 0))), dag(forPods(leaf(s)), forPods(node(api.DNot, 0)), leaf(counted(1, 1)), leaf(near("z", 0)), node(api.DAnd, 2, 3)),
		dag(leaf(a), forPods(node(api.DTrue)), leaf(near("z", 1))), dag(forPods(leaf(s)), leaf(a)),
	} {
		expectValid(t, x, true)
	}
}

// pointsAlone are dags that break one of the five points and no other, by the point.
func pointsAlone() map[int][]api.Dag {
	far := []int{-1, math.MinInt, math.MaxInt}
	yes, sel := node(api.DTrue), forPods(leaf(s))
	filled := func(kind api.DagKind, l api.Lit, kids ...int) api.DagPart {
		return api.DagPart{Kind: kind, Lit: l, Kids: kids}
	}
	out := map[int][]api.Dag{
		1: {dag(slices.Repeat([]api.DagPart{yes}, 2001)...), dag(yes, node(api.DAnd, make([]int, 2001)...)), dag(yes, node(api.DAnd, make([]int, 1000)...), node(api.DOr, make([]int, 1000)...), node(api.DNot, 0))},
		2: {
			// kinds, and their numbers of kids
			dag(node(0)), dag(node(7)), dag(node(-1)), dag(yes, node(7, 0)), dag(yes, node(0, 0, 0)), dag(node(math.MaxInt)), dag(node(math.MinInt)),
			dag(yes, node(api.DTrue, 0)), dag(yes, node(api.DFalse, 0)), dag(yes, node(api.DFalse, 0, 0)), dag(yes, filled(api.DLit, a.part.Lit, 0)),
			dag(node(api.DNot)), dag(yes, node(api.DNot, 0, 0)), dag(node(api.DAnd)), dag(node(api.DOr)), dag(yes, node(api.DAnd, 0)), dag(yes, node(api.DOr, 0)),
			// a kid in its own place, a later one, one that isn't there
			dag(yes, node(api.DNot, 1)), rooted(1, yes, node(api.DNot, 2), yes), dag(node(api.DNot, 0)), dag(yes, node(api.DAnd, 0, 1)), rooted(1, yes, node(api.DOr, 2, 0), yes),
			dag(yes, node(api.DNot, 2)), rooted(0, node(api.DNot, 1), node(api.DNot, 0)),
			// a kid of the other Pods
			dag(sel, node(api.DNot, 0)), dag(sel, yes, node(api.DAnd, 1, 0)), dag(sel, yes, node(api.DOr, 0, 1)), rooted(0, yes, forPods(node(api.DNot, 0))), rooted(0, yes, sel, forPods(node(api.DAnd, 1, 0))),
			// a literal beside another kind
			dag(filled(api.DTrue, a.part.Lit)), dag(filled(api.DFalse, api.Lit{Kind: api.LitTol})), dag(yes, filled(api.DNot, a.part.Lit, 0)), dag(yes, filled(api.DAnd, api.Lit{Num: 1}, 0, 0)), dag(yes, filled(api.DOr, api.Lit{Texts: []string{""}}, 0, 0)),
			dag(filled(api.DTrue, api.Lit{Nums: []int{0}})), dag(filled(api.DTrue, api.Lit{Sel: 1})), dag(filled(api.DTrue, api.Lit{Sel: -1})), dag(filled(api.DTrue, api.Lit{Rel: 1})), dag(filled(api.DTrue, api.Lit{Of: 1})), dag(filled(api.DTrue, api.Lit{Key: "x"})),
			dag(filled(api.DTrue, api.Lit{Term: api.Term{Kind: 1}})), dag(filled(api.DTrue, api.Lit{Term: api.Term{Side: 1}})), dag(filled(api.DTrue, api.Lit{Term: api.Term{Key: "x"}})), dag(filled(api.DTrue, api.Lit{Term: api.Term{Sel: 1}})), dag(filled(api.DTrue, api.Lit{Other: api.Term{Sel: 1}})),
			dag(sel, filled(api.DTrue, api.Lit{Kind: api.LitNear})), dag(sel, filled(api.DFalse, api.Lit{Term: countTerm("", 0)})), rooted(0, yes, forPods(filled(api.DTrue, s.part.Lit))), dag(filled(api.DTrue, api.Lit{Nums: upTo(1000)})),
		},
		3: {
			// a selector that is no earlier part, or a part for nodes
			dag(yes, leaf(near("z", 0))), dag(sel, leaf(near("z", 1))), rooted(1, sel, leaf(near("z", 2)), sel), dag(sel, leaf(near("z", 2))), dag(sel, yes, leaf(near("z", 1))), dag(leaf(near("z", 0))),
			dag(yes, leaf(counted(0, 1))), dag(sel, leaf(counted(1, 1))), rooted(1, sel, leaf(counted(2, 1)), sel), dag(sel, yes, leaf(counted(1, 1))), dag(leaf(counted(0, 1))),
		},
		4: {dag(leaf(cores(upTo(1001)...))), dag(leaf(zone(words(1001)...))), dag(leaf(cores(upTo(500)...)), leaf(zone(words(501)...)), node(api.DAnd, 0, 1)), rooted(1, forPods(leaf(texts(nameTerm(api.OfIt), words(1000)...))), leaf(zone("x"))), rooted(0, yes, leaf(cores(upTo(999)...)), leaf(cores(1, 2)))},
		5: {rooted(1, yes), rooted(2, yes, yes), rooted(-1, yes), rooted(0, sel), rooted(1, yes, sel), rooted(0, sel, yes), rooted(2, sel, leaf(near("z", 0)), forPods(node(api.DNot, 0)))},
	}
	for _, place := range far {
		out[2] = append(out[2], dag(yes, node(api.DNot, place)), dag(yes, node(api.DAnd, 0, place)), dag(yes, node(api.DOr, place, 0)))
		out[3] = append(out[3], dag(sel, leaf(near("z", place))), dag(sel, leaf(counted(place, 1))), dag(sel, leaf(rel(countTerm("z", place), api.CmpLe, 1))), dag(sel, leaf(beside(countTerm("z", place), api.CmpLe, numTerm(api.OfPod, "m")))))
		out[5] = append(out[5], rooted(place, yes))
	}
	for _, l := range wrongInMain() {
		out[3] = append(out[3], dag(sel, leaf(lit(l))), dag(sel, leaf(lit(l)), node(api.DNot, 1)), rooted(1, sel, yes, leaf(lit(l))))
	}
	for _, l := range wrongInSelectors() {
		out[3] = append(out[3], dag(sel, forPods(leaf(lit(l))), leaf(near("z", 1))), rooted(1, sel, yes, forPods(leaf(lit(l)))))
	}
	return out
}

// wrongAnywhere are literals that chapter 16 allows nowhere, where the place 0 is that of a selector.
func wrongAnywhere() []api.Lit {
	pod, long := api.OfPod, strings.Repeat("k", 128)
	x, n, m := labelTerm(pod, "a"), numTerm(pod, "n"), numTerm(pod, "m")
	out := []api.Lit{{}, {Kind: 8}, {Kind: -1}, {Kind: math.MaxInt}}
	for _, w := range []twig{
		texts(textTerm("a"), "a"), texts(api.Term{}), texts(api.Term{Kind: 7}), texts(x, "y", "x"), texts(x, "x", "x"), texts(x, "x", "y", ""), texts(n, "x"), nums(x, 1), nums(nameTerm(pod), 0),
		nums(n, 2, 1), nums(n, 1, 1), nums(n, most+1), nums(n, -most-1), nums(n, math.MinInt, math.MaxInt),
		rel(n, api.CmpLe, most+1), rel(n, api.CmpLe, -most-2), rel(n, api.CmpGe, most+2), rel(n, api.CmpGe, -most-1), rel(n, api.CmpLe, math.MinInt), rel(n, api.CmpGe, math.MaxInt), rel(n, api.CmpLt, 1), rel(n, api.CmpEq, 1), rel(n, 0, 1), rel(n, 7, 1), rel(x, api.CmpLe, 1),
		beside(x, api.CmpLe, x), beside(x, api.CmpNe, x), beside(x, api.CmpEq, m), beside(x, api.CmpEq, textTerm("b")), beside(x, api.CmpEq, api.Term{}), beside(textTerm("a"), api.CmpEq, x), beside(n, api.CmpNe, m), beside(n, 7, m), beside(n, 0, m), beside(n, api.CmpEq, capTerm("b")), beside(n, api.CmpEq, countTerm("b", 0)), beside(n, api.CmpEq, nameTerm(pod)), beside(x, api.CmpEq, labelTerm(api.OfNode, "a")), beside(x, api.CmpEq, labelTerm(api.OfIt, "a")), beside(n, api.CmpEq, numTerm(api.OfNode, "n")),
		inKeys(x, 0), inKeys(x, 4), inKeys(textTerm("a"), -1), inKeys(n, pod), inKeys(capTerm("a"), pod), inTaints(n), inTaints(api.Term{}), inTaints(labelTerm(api.OfNode, "a")), inTaints(nameTerm(api.OfIt)),
		texts(api.Term{Kind: api.TermLabel, Key: "a"}), texts(api.Term{Kind: api.TermName}), nums(api.Term{Kind: api.TermNumber, Key: "n"}), texts(labelTerm(4, "a")), texts(labelTerm(-1, "a")), texts(api.Term{Kind: api.TermName, Side: pod, Key: "a"}), texts(api.Term{Kind: api.TermName, Side: pod, Sel: 1}), nums(api.Term{Kind: api.TermCap, Side: pod, Key: "c"}), nums(api.Term{Kind: api.TermCount, Side: pod, Key: "c"}), inKeys(api.Term{Kind: api.TermText, Side: pod, Key: "c"}, pod), inKeys(api.Term{Kind: api.TermText, Key: "c", Sel: -1}, pod), beside(n, api.CmpEq, api.Term{Kind: api.TermNumber, Side: pod, Key: "m", Sel: 1}),
		texts(labelTerm(pod, long)), texts(x, long), texts(nameTerm(pod), "a", "b", long+long), nums(numTerm(pod, long)), beside(x, api.CmpEq, labelTerm(pod, long)), beside(n, api.CmpEq, numTerm(pod, long)), inKeys(textTerm(long), pod), tol(long), near(long, 0), nums(countTerm(long, 0)), rel(capTerm(long), api.CmpLe, 1), inTaints(textTerm(long)),
	} {
		out = append(out, w.part.Lit)
	}
	for _, w := range still() {
		for _, l := range []api.Lit{{Num: math.MaxInt}, {Rel: 7}, {Of: 4}, {Key: "x"}, {Sel: 1}, {Sel: -1}, {Texts: []string{"x"}, Nums: []int{1}}, {Other: api.Term{Key: "x", Sel: 1}}} {
			out = append(out, fill(w.part.Lit, l))
		}
	}
	return append(out, api.Lit{Kind: api.LitTol, Term: countTerm("x", 0), Key: "x"}, api.Lit{Kind: api.LitNear, Key: "x", Term: countTerm("x", 0)}, api.Lit{Kind: api.LitNear, Key: "x", Num: 1}, api.Lit{Kind: api.LitNear, Key: "x", Term: api.Term{Sel: 1}}, api.Lit{Kind: api.LitIn, Term: countTerm("x", 0), Nums: []int{1}, Sel: 1})
}

// fill is a literal with all fields of another that aren't zero.
func fill(l, by api.Lit) api.Lit {
	for _, name := range namesOf(by) {
		switch name {
		case "Num":
			l.Num = by.Num
		case "Rel":
			l.Rel = by.Rel
		case "Of":
			l.Of = by.Of
		case "Key":
			l.Key = by.Key
		case "Sel":
			l.Sel = by.Sel
		case "Texts":
			l.Texts = by.Texts
		case "Nums":
			l.Nums = by.Nums
		case "Other":
			l.Other = by.Other
		}
	}
	return l
}

func litsOf(twigs []twig) []api.Lit {
	var out []api.Lit
	for _, w := range twigs {
		out = append(out, w.part.Lit)
	}
	return out
}

// wrongInMain and wrongInSelectors are literals that aren't allowed there.
func wrongInMain() []api.Lit {
	node, it := api.OfNode, api.OfIt
	both := []twig{inKeys(labelTerm(node, "a"), node), inKeys(nameTerm(node), node), inKeys(nameTerm(it), node), inKeys(nameTerm(node), it)}
	return slices.Concat(wrongAnywhere(), litsOf(moving(it)), litsOf(both))
}

func wrongInSelectors() []api.Lit {
	node, it := api.OfNode, api.OfIt
	both := []twig{inKeys(labelTerm(it, "a"), it), inKeys(nameTerm(it), it), inKeys(nameTerm(it), node), inKeys(nameTerm(node), it)}
	ofNodes := slices.DeleteFunc(ofNodes(), func(w twig) bool { return w.part.Lit.Sel+w.part.Lit.Term.Sel > 0 })
	return slices.Concat(wrongAnywhere(), litsOf(moving(node)), litsOf(ofNodes), litsOf(both))
}

// P18.1, P18.4, R3: dags that break each of the five points alone: Valid says no, Unfold answers ErrDag.
func TestEachPointAlone(t *testing.T) {
	expectValid(t, api.Dag{}, false) // without parts there is no Root, either
	expectValid(t, api.Dag{Parts: []api.DagPart{}}, false)
	refused(t, api.Dag{}, api.ErrDag)
	for point, dags := range pointsAlone() {
		for i, x := range dags {
			if points := broken(x); !slices.Equal(points, []int{point}) {
				t.Errorf("point %d, dag %d: %s breaks %v", point, i, shortDag(x), points)
			}
			if share.Valid(x) {
				t.Errorf("point %d, dag %d: %s is taken", point, i, shortDag(x))
			}
			refused(t, x, api.ErrDag)
		}
	}
}

// P18.4, R2: ErrDag comes ahead of ErrUnfold.
func TestErrDagComesFirst(t *testing.T) {
	great := doubling(a, 20)
	refused(t, great, api.ErrUnfold)
	great.Parts = append(great.Parts, node(api.DNot))
	refused(t, great, api.ErrDag)
	refused(t, rooted(21, doubling(a, 20).Parts...), api.ErrDag)
	refused(t, dag(append(doubling(zone("b", "a"), 20).Parts, leaf(a))...), api.ErrDag)
}

// P18.1: each sample of a literal where it may stand and where it may not.
func TestLiteralsInTheirPlaces(t *testing.T) {
	sels := []api.DagPart{forPods(leaf(s)), forPods(node(api.DTrue))}
	inMain := func(w twig) api.Dag { return dag(append(slices.Clone(sels), leaf(w))...) }
	inSelector := func(w twig) api.Dag {
		return rooted(2, append(slices.Clone(sels), node(api.DTrue), forPods(leaf(w)))...)
	}
	for _, w := range still() {
		expectValid(t, inMain(w), true)
		expectValid(t, inSelector(w), true)
	}
	for _, w := range slices.Concat(moving(api.OfNode), ofNodes()) {
		expectValid(t, inMain(w), true)
		expectValid(t, inSelector(w), false)
	}
	for _, w := range moving(api.OfIt) {
		expectValid(t, inMain(w), false)
		expectValid(t, inSelector(w), true)
	}
}

// P18.1: each field of each literal set to what it may not, or may, hold.
func TestEachFieldOfEachLiteral(t *testing.T) {
	seen := map[bool]int{}
	sels := []api.DagPart{forPods(leaf(s)), forPods(node(api.DTrue)), node(api.DTrue)}
	try := func(l api.Lit) {
		t.Helper()
		seen[checkValid(t, dag(append(slices.Clone(sels), leaf(lit(l)))...))]++
		seen[checkValid(t, rooted(2, append(slices.Clone(sels), forPods(leaf(lit(l))))...))]++
	}
	var terms []api.Term
	for kind := api.TermKind(-1); kind <= 7; kind++ {
		for side := api.Side(-1); side <= 4; side++ {
			for _, key := range []string{"", "k"} {
				for _, sel := range []int{-1, 0, 1, 2, 3} {
					terms = append(terms, api.Term{Kind: kind, Side: side, Key: key, Sel: sel})
				}
			}
		}
	}
	for _, l := range litsOf(slices.Concat(mainLits(), selectorLits())) {
		for kind := api.LitKind(-1); kind <= 9; kind++ {
			for c := api.Cmp(-1); c <= 8; c++ {
				x := l
				x.Kind, x.Rel = kind, c
				try(x)
			}
		}
		for _, term := range terms {
			x, y := l, l
			x.Term, y.Other = term, term
			try(x)
			try(y)
		}
		for n := -2; n <= 5; n++ {
			for _, by := range []func(x *api.Lit){
				func(x *api.Lit) { x.Num = n }, func(x *api.Lit) { x.Of = api.Side(n) }, func(x *api.Lit) { x.Sel = n }, func(x *api.Lit) { x.Nums = []int{n} }, func(x *api.Lit) { x.Texts = []string{fmt.Sprint(n)} }, func(x *api.Lit) { x.Key = strings.Repeat("k", 125+n) },
			} {
				x := l
				by(&x)
				try(x)
			}
		}
	}
	if seen[true] < 1500 || seen[false] < 20000 {
		t.Errorf("valid ones and others: %v", seen)
	}
}

// P18.1, R5: nil and empty lists mean the same; so a Lit with empty lists is the zero Lit.
func TestEmptyListsInDags(t *testing.T) {
	hollow := func(part api.DagPart) api.DagPart {
		part.Kids, part.Lit.Texts, part.Lit.Nums = append([]int{}, part.Kids...), append([]string{}, part.Lit.Texts...), append([]int{}, part.Lit.Nums...)
		return part
	}
	for _, w := range mainLits() {
		parts := []api.DagPart{forPods(leaf(s)), forPods(node(api.DTrue)), leaf(w), node(api.DNot, 2), node(api.DFalse), node(api.DAnd, 2, 3, 4), node(api.DOr, 5, 2)}
		first := dag(parts...)
		var second api.Dag
		for _, part := range parts {
			second.Parts = append(second.Parts, hollow(part))
		}
		second.Root = first.Root
		expectValid(t, second, true)
		gives(t, second, checkUnfold(t, first))
	}
}

// everyDag grows every dag of up to so many of these parts, with every Root, and answers how many are valid, by the number of parts.
func everyDag(t *testing.T, longest int, parts []api.DagPart) string {
	valid := make([]int, longest+1)
	var grow func(list []api.DagPart)
	grow = func(list []api.DagPart) {
		for root := -1; root <= len(list); root++ {
			x := rooted(root, list...)
			if checkValid(t, x) {
				valid[len(list)]++
				unfold(t, x)
			} else if _, e := share.Unfold(x); e != api.ErrDag {
				t.Fatalf("%s: %d", shortDag(x), e)
			}
		}
		for i := 0; i < len(parts) && len(list) < longest; i++ {
			grow(append(slices.Clone(list), parts[i]))
		}
	}
	grow(nil)
	return fmt.Sprint(valid)
}

// P18.1, P18.4: every dag of up to three of these parts, whatever their kids are; of up to five whose kids are places ahead.
func TestEveryShortDag(t *testing.T) {
	some := []api.DagPart{node(api.DTrue), leaf(tolerant), forPods(leaf(tolerant)), leaf(near("z", 0)), leaf(counted(1, 1)), leaf(near("z", 2)), node(api.DNot), node(api.DAnd), forPods(node(api.DNot, 0)), forPods(node(api.DOr, 0, 1))}
	for i := -1; i <= 3; i++ {
		some = append(some, node(api.DNot, i), node(api.DOr, i))
		for j := -1; j <= 3; j += 2 {
			some = append(some, node(api.DAnd, i, j))
		}
	}
	// of two parts: 14 with a part for nodes ahead (seven behind each of the two), three with one for pods
	if got := everyDag(t, 3, some); got != "[0 2 17 182]" {
		t.Errorf("valid dags by their parts: %s", got)
	}
	few := []api.DagPart{leaf(a), node(api.DNot, 0), node(api.DAnd, 0, 1), node(api.DNot, 2), node(api.DOr, 2, 2), node(api.DOr, 3, 1), forPods(node(api.DFalse)), leaf(near("z", 1))}
	if got := everyDag(t, 5, few); got != "[0 1 6 34 252 1951]" {
		t.Errorf("valid dags by their parts: %s", got)
	}
}
