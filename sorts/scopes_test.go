package sorts_test

import (
	"math"
	"testing"

	"berth/api"
	"berth/show"
)

// noScopes are sides, and numbers that are none, of which no tree is checked.
var noScopes = []api.Side{api.Fixed, api.OfPod, -1, -2, -3, 4, 5, 7, 100, 256 + 2, 256 + 3, 1<<32 + 2, 1<<32 + 3, math.MaxInt, math.MinInt, math.MinInt + 2}

// P14.1, P14.2: a scope that is neither OfNode nor OfIt is told ahead of all else: of trees that are taken in both scopes, in one, in none, and of lists that are no trees.
func TestNoScope(t *testing.T) {
	var trees []api.Tree
	for _, s := range conditionSamples {
		trees = append(trees, list(s.twig))
	}
	for _, s := range termSamples {
		trees = append(trees, list(s.twig), list(equal(s.twig, s.twig)))
	}
	for _, c := range invalid() {
		trees = append(trees, c.tree)
	}
	for _, tree := range trees {
		for _, scope := range noScopes {
			expectFault(t, tree, scope, api.ErrSortSide, -1)
		}
	}
}

// shells put a condition deeper: one part, or a few, stand round it and behind it.
var shells = []struct {
	of     func(w twig) twig
	ahead  int // how many parts stand ahead of the condition's
	behind int
}{
	{not, 0, 1},
	{func(w twig) twig { return and(w, yes) }, 0, 2},
	{func(w twig) twig { return and(no, w) }, 1, 1},
	{func(w twig) twig { return or(equal(num(1), num(2)), w, no) }, 3, 2},
	{func(w twig) twig { return or(w, equal(name(pod), text("a"))) }, 0, 4},
}

// P14.1: what isn't known in a selector is refused in it at every depth, and taken at every depth outside of it.
func TestScopeAtEveryDepth(t *testing.T) {
	inNode, inIt := equal(name(node), text("a")), equal(name(it), text("a"))
	for _, shell := range shells {
		w, other, ahead := inNode, inIt, 0
		for range 12 {
			expectTaken(t, list(w), api.OfNode)
			expectTaken(t, list(other), api.OfIt)
			expectFault(t, list(w), api.OfIt, api.ErrSortScope, ahead)
			expectFault(t, list(other), api.OfNode, api.ErrSortScope, ahead)
			for _, in := range selections {
				expectFault(t, list(in.of("z", w)), api.OfNode, api.ErrSortScope, ahead)
				expectTaken(t, list(in.of("z", other)), api.OfNode)
			}
			w, other, ahead = shell.of(w), shell.of(other), ahead+shell.ahead
		}
	}
}

// P14.1: a selector within a selector, at every depth: the inner one is told, and of many the one that stands first, which is the innermost.
func TestSelectorWithinSelector(t *testing.T) {
	for _, outer := range selections {
		for _, inner := range selections {
			for _, shell := range shells {
				w, ahead := inner.of("rack", yes), 0
				for range 15 {
					tree := list(outer.of("zone", w))
					if show.Valid(tree) != nil {
						t.Fatalf("%s is not valid", toldTree(tree))
					}
					expectFault(t, tree, api.OfNode, api.ErrSortInner, ahead+1)
					expectFault(t, tree, api.OfIt, api.ErrSortInner, ahead+1)
					expectTaken(t, list(w), api.OfNode)
					w, ahead = shell.of(w), ahead+shell.ahead
				}
			}
		}
		w := yes
		for depth := range 32 {
			w = outer.of("zone", w)
			if depth == 0 {
				expectTaken(t, list(w), api.OfNode)
			} else {
				expectFault(t, list(w), api.OfNode, api.ErrSortInner, 1)
			}
			expectFault(t, list(w), api.OfIt, api.ErrSortInner, 1)
		}
	}
}

// P14.1: a selector has no other scope for being in a selector that is itself refused: what stands in the inner one is looked at first, in the scope OfIt.
func TestWhatStandsInTheInner(t *testing.T) {
	for _, outer := range selections {
		for _, inner := range selections {
			expectFault(t, list(outer.of("a", inner.of("b", equal(name(node), text("c"))))), api.OfNode, api.ErrSortScope, 0)
			expectFault(t, list(outer.of("a", inner.of("b", equal(name(it), text("c"))))), api.OfNode, api.ErrSortInner, 3)
			expectFault(t, list(inner.of("b", equal(name(it), text("c")))), api.OfIt, api.ErrSortInner, 3)
		}
	}
}

// P14.1: behind the kid of a near, apart or count the tree's scope holds again: in the same comparison, in the same row, and further out.
func TestScopeBehindSelector(t *testing.T) {
	selector := equal(name(it), text("a")) // three parts
	onNode, onIt := equal(name(node), text("b")), equal(name(it), text("b"))
	for _, s := range selections {
		near := s.of("zone", selector)
		n := size(near)
		for _, join := range []func(...twig) twig{and, or} {
			expectTaken(t, list(join(near, onNode)), api.OfNode)
			expectTaken(t, list(join(onNode, near)), api.OfNode)
			expectTaken(t, list(join(onNode, near, onNode)), api.OfNode)
			expectTaken(t, list(join(near, near, onNode, near)), api.OfNode)
			expectTaken(t, list(join(not(near), not(onNode), tolerated("NoExecute"))), api.OfNode)
			expectFault(t, list(join(near, onIt)), api.OfNode, api.ErrSortScope, n)
			expectFault(t, list(join(onIt, near)), api.OfNode, api.ErrSortScope, 0)
			expectFault(t, list(join(not(join(near, near)), onIt)), api.OfNode, api.ErrSortScope, 2*n+2)
			expectFault(t, list(join(onIt, near)), api.OfIt, api.ErrSortInner, 6)
		}
	}
	many := count("zone", selector) // four parts
	expectTaken(t, list(equal(many, integer(label(pod, "a")))), api.OfNode)
	expectFault(t, list(equal(many, integer(label(it, "a")))), api.OfNode, api.ErrSortScope, 4)
	expectFault(t, list(equal(many, integer(label(node, "a")))), api.OfNode, api.ErrSortSides, 6)
	expectFault(t, list(equal(integer(label(it, "a")), many)), api.OfNode, api.ErrSortScope, 0)
	expectFault(t, list(equal(integer(label(node, "a")), many)), api.OfNode, api.ErrSortSides, 6)
	expectTypes(t, list(and(near("z", selector), onNode)), api.OfNode, "text OfIt; text Fixed; bool OfIt; bool OfNode; text OfNode; text Fixed; bool OfNode; bool OfNode")
}

// P14.1: what speaks of the node alone isn't known in a selector, whatever its side; what speaks of the pod is known everywhere.
func TestWhatIsKnown(t *testing.T) {
	onNode := []twig{tolerated("NoSchedule"), in(text("a"), taints(node)), equal(capacity(node, "cpu"), num(1)), in(text("a"), keys(node)), equal(label(node, "a"), text("b"))}
	onPod := []twig{equal(name(pod), text("a")), in(text("a"), keys(pod)), equal(label(pod, "a"), text("b")), equal(integer(label(pod, "a")), num(1))}
	nowhere := []twig{in(text("a"), taints(pod)), in(text("a"), taints(it)), equal(capacity(pod, "cpu"), num(1)), equal(capacity(it, "cpu"), num(1))}
	for _, s := range selections {
		for _, w := range onNode {
			expectTaken(t, list(w), api.OfNode)
			if f := check(t, list(w), api.OfIt); f == nil || f.Code != api.ErrSortScope {
				t.Errorf("%s in the scope OfIt: %v", toldTree(list(w)), f)
			}
			if f := check(t, list(s.of("z", w)), api.OfNode); f == nil || f.Code != api.ErrSortScope {
				t.Errorf("%s: %v", toldTree(list(s.of("z", w))), f)
			}
		}
		for _, w := range onPod {
			expectTaken(t, list(w), api.OfNode)
			expectTaken(t, list(w), api.OfIt)
			expectTaken(t, list(s.of("z", w)), api.OfNode)
		}
		for _, w := range nowhere {
			for _, scope := range both {
				for _, tree := range []api.Tree{list(w), list(s.of("z", w)), list(not(w))} {
					if f := check(t, tree, scope); f == nil || f.Code != api.ErrSortScope {
						t.Errorf("%s in the scope %d: %v", toldTree(tree), scope, f)
					}
				}
			}
		}
	}
}
