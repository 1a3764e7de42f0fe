package gen_test

import (
	"testing"

	"berth/api"
)

// deep: Gen takes a dag whose Depth is at most 128, and answers ErrDeep for others.
func deep(t *testing.T, d api.Dag, depth int) {
	t.Helper()
	p, e := try(t, d)
	if depth > 128 && e != api.ErrDeep || depth <= 128 && (e != api.OK || p.Depth != depth) {
		t.Errorf("%s: %d, depth %d, want %d", short(toldDag(d)), e, p.Depth, depth)
	}
}

var depths = []int{1, 2, 3, 64, 127, 128, 129, 130, 300}

// P19.1, P19.3: Depth 128 and 129, by joints of each kind, above each kind of literal.
func TestDeepJoints(t *testing.T) {
	for _, depth := range depths {
		for _, kinds := range [][]api.DagKind{{api.DAnd}, {api.DOr}, {api.DAnd, api.DOr}} {
			deep(t, dag(chain([]api.DagPart{a}, depth-1, false, kinds...)...), depth)
		}
	}
	for _, x := range forNodes() {
		for _, depth := range []int{3, 127, 128, 129} {
			deep(t, dag(chain([]api.DagPart{s, leaf(x.l)}, depth-x.depth, false, api.DAnd, api.DOr)...), depth)
		}
	}
	for _, x := range forIts() {
		for _, depth := range []int{3, 127, 128, 129} {
			parts := chain([]api.DagPart{forPods(leaf(x.l))}, depth-x.depth, false, api.DOr, api.DAnd)
			deep(t, dag(append(parts, leaf(near("z", len(parts)-1)))...), depth)
		}
	}
}

// P19.3: the selector stands on the same stack as the part that asks for it.
func TestDeepSelectors(t *testing.T) {
	for _, depth := range []int{10, 127, 128, 129} {
		for inside := range 9 {
			parts := chain([]api.DagPart{s}, inside, false, api.DAnd)
			last := len(parts) - 1
			for _, l := range []api.Lit{near("z", last), nums(countTerm("z", last), 1), rel(countTerm("z", last), api.CmpLe, 1), beside(countTerm("z", last), api.CmpLe, numTerm(api.OfPod, "m"))} {
				own := inside + 1 // the selector's, or the selector and a number
				if l.Kind != api.LitNear {
					own = max(own, 2)
				}
				deep(t, dag(chain(append(parts, leaf(l)), depth-own, false, api.DOr)...), depth)
			}
		}
	}
}

// P19.3: what adds nothing to the stack: negations, first kids, many kids.
func TestShallow(t *testing.T) {
	for _, joints := range []int{1, 2, 500, 999} {
		deep(t, dag(chain([]api.DagPart{a}, joints, true, api.DAnd, api.DOr)...), 2)
	}
	parts := []api.DagPart{a}
	for len(parts) < 2000 {
		parts = append(parts, node(api.DNot, len(parts)-1))
	}
	deep(t, dag(parts...), 1)
	deep(t, dag(a, b, node(api.DOr, append(make([]int, 1999), 1)...)), 2)
	// a negation between all joints: OpAndNot, and OpNot ahead of OpOr
	for _, depth := range []int{2, 127, 128, 129} {
		for _, kind := range []api.DagKind{api.DAnd, api.DOr} {
			parts := []api.DagPart{a}
			for range depth - 1 {
				n := len(parts)
				parts = append(parts, node(api.DNot, n-1), yes, node(kind, n+1, n))
			}
			deep(t, dag(parts...), depth)
		}
	}
}

// P19.3: a saved part begins with an empty stack, and takes one cell where it is used.
func TestDeepSavedParts(t *testing.T) {
	for _, depth := range []int{3, 100, 127, 128, 129} {
		parts := chain([]api.DagPart{a}, depth-1, false, api.DAnd)
		last := len(parts) - 1
		deep(t, dag(append(parts, node(api.DOr, last, last))...), depth)
	}
	for _, x := range []struct{ below, above, want int }{{100, 100, 101}, {128, 2, 128}, {127, 127, 128}, {1, 128, 129}, {20, 127, 128}, {128, 127, 128}, {129, 1, 129}} {
		parts := chain([]api.DagPart{a}, x.below-1, false, api.DAnd)
		last := len(parts) - 1
		joined := chain(append(parts, node(api.DAnd, last, last)), x.above-1, false, api.DOr)
		deep(t, dag(joined...), max(x.below, x.above+1, 2))
		if max(x.below, x.above+1) != x.want {
			t.Error(x)
		}
	}
}

// P19.3: what isn't written makes nothing deep: parts that aren't reached, a selector that nothing asks for.
func TestDeepPartsThatAreNotWritten(t *testing.T) {
	parts := chain([]api.DagPart{a}, 200, false, api.DAnd)
	deep(t, rooted(0, parts...), 1)
	deep(t, rooted(8, parts...), 5)
	deep(t, dag(append(parts, b)...), 1)
	sels := chain([]api.DagPart{s}, 200, false, api.DAnd)
	last := len(sels) - 1
	deep(t, dag(append(sels, leaf(counted(last)))...), 1)
	deep(t, dag(append(sels, leaf(counted(last, 1)))...), 201)
	deep(t, dag(append(sels, leaf(counted(last)), leaf(counted(last)), node(api.DAnd, last+1, last+2))...), 201)
}
