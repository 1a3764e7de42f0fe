package share_test

import (
	"slices"
	"testing"

	"berth/api"
	"berth/share"
)

// P18.2: a plan of one part, of each kind and sign.
func TestOnePart(t *testing.T) {
	expect(t, plan(yes), dag(node(api.DTrue)))
	expect(t, plan(no), dag(node(api.DFalse)))
	for _, w := range slices.Concat(still(), moving(api.OfNode), []twig{tol("x"), inTaints(textTerm("x")), nums(capTerm("cpu"), 1)}) {
		expect(t, plan(w), dag(leaf(w)))
		expect(t, plan(not(w)), dag(leaf(w), node(api.DNot, 0)))
	}
	for _, w := range []twig{near("z", 0), counted(0, 1, 2), rel(countTerm("z", 0), api.CmpLe, 1), beside(countTerm("z", 0), api.CmpGt, numTerm(api.OfPod, "m"))} {
		expect(t, plan(w, s), dag(forPods(leaf(s)), leaf(w)))
		expect(t, plan(not(w), s), dag(forPods(leaf(s)), leaf(w), node(api.DNot, 1)))
	}
}

// P18.2: joints of each kind: kids in their order, one in the other, the same one twice.
func TestJoints(t *testing.T) {
	for _, x := range []struct {
		join func(kids ...twig) twig
		kind api.DagKind
	}{{and, api.DAnd}, {or, api.DOr}} {
		expect(t, plan(x.join(b, a, c)), dag(leaf(b), leaf(a), leaf(c), node(x.kind, 0, 1, 2)))
		expect(t, plan(x.join(a, a)), dag(leaf(a), node(x.kind, 0, 0)))
		expect(t, plan(x.join(a, not(a), a)), dag(leaf(a), node(api.DNot, 0), node(x.kind, 0, 1, 0)))
		expect(t, plan(x.join(not(a), a)), dag(leaf(a), node(api.DNot, 0), node(x.kind, 1, 0)))
		expect(t, plan(x.join(not(a), b, not(a))), dag(leaf(a), node(api.DNot, 0), leaf(b), node(x.kind, 1, 2, 1)))
		expect(t, plan(x.join(yes, no, yes)), dag(node(api.DTrue), node(api.DFalse), node(x.kind, 0, 1, 0)))
		expect(t, plan(x.join(x.join(a, b), x.join(a, b))), dag(leaf(a), leaf(b), node(x.kind, 0, 1), node(x.kind, 2, 2)))
		expect(t, plan(x.join(x.join(a, b), x.join(b, a))), dag(leaf(a), leaf(b), node(x.kind, 0, 1), node(x.kind, 1, 0), node(x.kind, 2, 3)))
		expect(t, plan(x.join(x.join(a, b), a, b)), dag(leaf(a), leaf(b), node(x.kind, 0, 1), node(x.kind, 2, 0, 1)))
		expect(t, plan(x.join(x.join(a, b), x.join(a, b, a))), dag(leaf(a), leaf(b), node(x.kind, 0, 1), node(x.kind, 0, 1, 0), node(x.kind, 2, 3)))
	}
	expect(t, plan(or(and(a, b), or(a, b))), dag(leaf(a), leaf(b), node(api.DAnd, 0, 1), node(api.DOr, 0, 1), node(api.DOr, 2, 3)))
}

// P18.2, P18.3: the same subtree in several places, under PAnd and under POr, at several depths.
func TestCommonSubtrees(t *testing.T) {
	sub := or(and(a, not(b)), c)
	parts := []api.DagPart{leaf(a), leaf(b), node(api.DNot, 1), node(api.DAnd, 0, 2), leaf(c), node(api.DOr, 3, 4)}
	expect(t, plan(sub), dag(parts...))
	expect(t, plan(and(sub, or(d, sub), sub)), dag(append(slices.Clone(parts), leaf(d), node(api.DOr, 6, 5), node(api.DAnd, 5, 7, 5))...))
	expect(t, plan(or(and(sub, d), and(sub, not(d)))), dag(append(slices.Clone(parts), leaf(d), node(api.DAnd, 5, 6), node(api.DNot, 6), node(api.DAnd, 5, 8), node(api.DOr, 7, 9))...))
	// a subtree and its negation share the literals alone
	expect(t, plan(and(sub, not(sub))), dag(append(slices.Clone(parts), node(api.DNot, 0), node(api.DOr, 6, 1), node(api.DNot, 4), node(api.DAnd, 7, 8), node(api.DAnd, 5, 9))...))
	// what is within it stands elsewhere, too
	expect(t, plan(or(and(a, not(b)), d, sub)), dag(leaf(a), leaf(b), node(api.DNot, 1), node(api.DAnd, 0, 2), leaf(d), leaf(c), node(api.DOr, 3, 5), node(api.DOr, 3, 4, 6)))
}

// P18.2, P18.3: each literal twice, with and without its negation; parts that are nearly alike are two.
func TestLiteralsAreShared(t *testing.T) {
	for _, w := range mainLits() {
		got := check(t, plan(or(and(w, not(w)), and(not(w), w), w), s, u))
		if leaves := slices.DeleteFunc(got.Parts, func(part api.DagPart) bool { return part.Kind != api.DLit || part.Pods }); len(leaves) != 1 {
			t.Errorf("%s stands %d times", toldLit(w.part.Lit), len(leaves))
		}
	}
	for _, x := range nearlyAlike() {
		for _, w := range []twig{or(x[0], x[1]), and(x[1], x[0]), or(not(x[0]), not(x[1]), x[0])} {
			got := check(t, plan(w, s, u))
			if leaves := slices.DeleteFunc(got.Parts, func(part api.DagPart) bool { return part.Kind != api.DLit || part.Pods }); len(leaves) != 2 {
				t.Errorf("%s and %s: %d parts", toldLit(x[0].part.Lit), toldLit(x[1].part.Lit), len(leaves))
			}
		}
	}
}

// P18.2, R5: literals that are equal but for nil and empty lists are one part.
func TestEmptyListsAreAlike(t *testing.T) {
	for _, w := range append(mainLits(), yes, no) {
		hollow := w
		if len(w.part.Lit.Texts) == 0 {
			hollow.part.Lit.Texts = []string{}
		}
		if len(w.part.Lit.Nums) == 0 {
			hollow.part.Lit.Nums = make([]int, 0, 4)
		}
		for _, kids := range [][]twig{{w, hollow}, {hollow, w}, {hollow, hollow, w}} {
			p := plan(and(kids...), s, u)
			p.Main[0].Kids, p.Main[1].Kids = []int{}, make([]int, 0, 4)
			got := check(t, p)
			if want := check(t, plan(and(slices.Repeat([]twig{w}, len(kids))...), s, u)); !sameDag(got, want) {
				t.Errorf("%s, want %s", shortDag(got), shortDag(want))
			}
		}
	}
	// an empty list of selectors is none
	p := plan(and(a, a))
	p.Sels = [][]api.PlanPart{}
	expect(t, p, dag(leaf(a), node(api.DAnd, 0, 0)))
}

// P18.2: a literal that may stand on both sides, and constants, joints and negations, are unlike for nodes and for pods.
func TestNodesAndPodsAreUnlike(t *testing.T) {
	w := tolerant
	expect(t, plan(and(w, near("z", 0)), w), dag(leaf(w), forPods(leaf(w)), leaf(near("z", 1)), node(api.DAnd, 0, 2)))
	expect(t, plan(or(near("z", 0), yes, not(w)), or(yes, not(w))), dag(forPods(node(api.DTrue)), forPods(leaf(w)), forPods(node(api.DNot, 1)), forPods(node(api.DOr, 0, 2)), leaf(near("z", 3)), node(api.DTrue), leaf(w), node(api.DNot, 6), node(api.DOr, 4, 5, 7)))
	got := check(t, plan(and(or(w, no), near("z", 0), or(w, no)), or(w, no)))
	if len(got.Parts) != 8 {
		t.Error(shortDag(got))
	}
}

// tolerant hangs on the pod to be placed alone, so that it may stand in Main and in selectors.
var tolerant = inKeys(textTerm("k"), api.OfPod)

// P18.6: plans whose dags have twice as many parts as they, or nearly: each literal negated, and none alike.
func TestTwiceTheMeasure(t *testing.T) {
	if d, e := share.Share(plan(not(a))); e != api.OK || len(d.Parts) != 2 {
		t.Error(shortDag(d), e)
	}
	for _, n := range []int{2, 3, 100, 999} {
		got := check(t, plan(and(spread(n, func(i int) twig { return not(keyed(i)) })...)))
		if len(got.Parts) != 2*n+1 {
			t.Errorf("%d parts of %d", len(got.Parts), n+1)
		}
	}
	got := check(t, plan(and(spread(333, func(i int) twig { return not(near("z", i)) })...), spread(333, func(i int) twig { return not(inKeys(textTerm(keyed(i).part.Lit.Term.Key), api.OfIt)) })...))
	if len(got.Parts) != 4*333+1 {
		t.Errorf("%d parts", len(got.Parts))
	}
}
