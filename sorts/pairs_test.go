package sorts_test

import (
	"strings"
	"testing"

	"berth/api"
)

// sortAndSide of a type as it is told.
func sortAndSide(told string) (string, string) {
	sort, side, _ := strings.Cut(told, " ")
	return sort, side
}

// movesTold: whether the side that is told moves.
func movesTold(side string) bool { return side == "OfNode" || side == "OfIt" }

// wantedOfPair is what the chapter's rows of KCmp and KIn say of two terms that are taken; places are counted from the first part of the first.
func wantedOfPair(a, b sample, scope api.Side, pair api.Part) (api.Errno, int) {
	first, second := size(a.twig)-1, size(a.twig)+size(b.twig)-1
	sortA, sideA := sortAndSide(a.wanted(scope).as)
	sortB, sideB := sortAndSide(b.wanted(scope).as)
	if sortA != "text" && sortA != "number" {
		return api.ErrSortType, first
	}
	if pair.Kind == api.KCmp && sortB != sortA || pair.Kind == api.KIn && sortB != sortA+"s" && sortB != "empty" {
		return api.ErrSortType, second
	}
	if pair.Kind == api.KCmp && sortA == "text" && pair.Num > 2 {
		return api.ErrSortType, second + 1
	}
	if movesTold(sideA) && movesTold(sideB) {
		return api.ErrSortSides, second + 1
	}
	return api.OK, 0
}

// expectPair: two terms held against each other.
func expectPair(t *testing.T, a, b sample, scope api.Side, pair api.Part) api.Errno {
	t.Helper()
	tree := list(twig{pair, []twig{a.twig, b.twig}})
	first, second := size(a.twig)-1, size(a.twig)+size(b.twig)-1
	if w := a.wanted(scope); w.code != api.OK {
		expectFault(t, tree, scope, w.code, first-w.ahead)
		return w.code
	}
	if w := b.wanted(scope); w.code != api.OK {
		expectFault(t, tree, scope, w.code, second-w.ahead)
		return w.code
	}
	code, at := wantedOfPair(a, b, scope, pair)
	if code != api.OK {
		expectFault(t, tree, scope, code, at)
		return code
	}
	expectTaken(t, tree, scope)
	return api.OK
}

// P14.1: every kind of term, with every side, as the first and as the second kid of KCmp and of KIn, by each of the six comparisons, in and notin, in both scopes.
func TestPairs(t *testing.T) {
	var pairs []api.Part
	for c := api.CmpEq; c <= api.CmpGe; c++ {
		pairs = append(pairs, api.Part{Kind: api.KCmp, Num: int(c)})
	}
	pairs = append(pairs, api.Part{Kind: api.KIn, Num: 0}, api.Part{Kind: api.KIn, Num: 1})
	answers := map[api.Errno]int{}
	for _, scope := range both {
		for _, a := range termSamples {
			for _, b := range termSamples {
				for _, pair := range pairs {
					answers[expectPair(t, a, b, scope, pair)]++
				}
			}
		}
	}
	for _, code := range []api.Errno{api.OK, api.ErrSortType, api.ErrSortScope, api.ErrSortInner, api.ErrSortSides, api.ErrSortSet, api.ErrSortKey, api.ErrSortInt} {
		if answers[code] < 50 {
			t.Errorf("only %d answers with the code %d", answers[code], code)
		}
	}
}

// P14.1: texts are held against each other by == and != alone, numbers by each of the six; in both scopes, with each side.
func TestSixComparisons(t *testing.T) {
	for _, scope := range both {
		here := int(scope)
		texts := []twig{text("a"), label(pod, "a"), name(pod), label(here, "a"), name(here)}
		numbers := []twig{num(1), integer(text("1")), integer(label(pod, "a")), integer(label(here, "a"))}
		if scope == api.OfNode {
			numbers = append(numbers, capacity(node, "cpu"), count("zone", yes))
		}
		for c := api.CmpEq; c <= api.CmpGe; c++ {
			for _, still := range []twig{text(""), text("b"), label(pod, "b"), name(pod)} {
				for _, w := range texts {
					for _, tree := range []api.Tree{list(cmp(w, c, still)), list(cmp(still, c, w))} {
						if c == api.CmpEq || c == api.CmpNe {
							expectTaken(t, tree, scope)
						} else {
							expectFault(t, tree, scope, api.ErrSortType, 2)
						}
					}
				}
			}
			for _, still := range []twig{num(0), num(-5), integer(text("b")), integer(label(pod, "b"))} {
				for _, w := range numbers {
					expectTaken(t, list(cmp(w, c, still)), scope)
					expectTaken(t, list(cmp(still, c, w)), scope)
				}
			}
		}
	}
}

// P14.1: not both kids may move, be they one part twice or two parts of unlike kinds; a kid that hangs on the pod doesn't move.
func TestBothMove(t *testing.T) {
	for _, c := range []struct {
		source string
		scope  api.Side
		at     int
	}{
		{`node["a"] == node["a"]`, api.OfNode, 2},
		{`node["a"] != node.name`, api.OfNode, 2},
		{`int(node["a"]) < int(node["b"])`, api.OfNode, 4},
		{`int(node["a"]) < node.cap("a")`, api.OfNode, 3},
		{`count("a", it.name == pod.name) == count("a", true)`, api.OfNode, 6},
		{`node.name in node.taints`, api.OfNode, 2},
		{`node["a"] notin node.keys`, api.OfNode, 2},
		{`it["a"] == it["b"]`, api.OfIt, 2},
		{`it.name in it.keys`, api.OfIt, 2},
		{`int(it["a"]) >= int(it["b"])`, api.OfIt, 4},
		{`near("z", it.name != it["name"])`, api.OfNode, 2},
		{`true && count("z", it["a"] notin it.keys) > 0`, api.OfNode, 3},
	} {
		expectFault(t, read(t, c.source), c.scope, api.ErrSortSides, c.at)
	}
	for _, source := range []string{`pod["a"] == pod["b"]`, `pod.name in pod.keys`, `int(pod["a"]) < int(pod["b"])`, `pod["a"] == "b"`, `"a" == "a"`} {
		expectTaken(t, read(t, source), api.OfNode)
		expectTaken(t, read(t, source), api.OfIt)
	}
}

// P14.1: a set's sort; of a set of texts and numbers the first kid of another sort than the first, at every place of it.
func TestSets(t *testing.T) {
	for _, scope := range both {
		expectTypes(t, list(in(text("a"), set())), scope, "text Fixed; empty Fixed; bool Fixed")
		expectTypes(t, list(in(num(1), set())), scope, "number Fixed; empty Fixed; bool Fixed")
		expectTypes(t, list(notin(text("a"), set(text("")))), scope, "text Fixed; text Fixed; texts Fixed; bool Fixed")
		expectTypes(t, list(notin(num(1), set(num(1), num(1)))), scope, "number Fixed; number Fixed; number Fixed; numbers Fixed; bool Fixed")
		for _, n := range []int{2, 3, 5, 63, 64} {
			for odd := range n {
				texts, numbers := many(n, text("a")), many(n, num(1))
				texts[odd], numbers[odd] = num(1), text("a")
				at := 1 + max(odd, 1) // where the first kid is the odd one, the second is told
				expectFault(t, list(in(text("a"), set(texts...))), scope, api.ErrSortSet, at)
				expectFault(t, list(in(num(1), set(numbers...))), scope, api.ErrSortSet, at)
				expectFault(t, list(equal(set(numbers...), num(2))), scope, api.ErrSortSet, at-1)
			}
			expectTaken(t, list(in(text("a"), set(many(n, text("a"))...))), scope)
			expectTaken(t, list(in(num(1), set(many(n, num(1))...))), scope)
			expectFault(t, list(in(num(1), set(many(n, text("a"))...))), scope, api.ErrSortType, n+1)
			expectFault(t, list(in(text("a"), set(many(n, num(1))...))), scope, api.ErrSortType, n+1)
		}
		expectFault(t, list(in(set(), set())), scope, api.ErrSortType, 0)
		expectFault(t, list(equal(set(), set())), scope, api.ErrSortType, 0)
		expectFault(t, list(equal(text("a"), set())), scope, api.ErrSortType, 1)
		expectFault(t, list(equal(num(1), set())), scope, api.ErrSortType, 1)
		expectFault(t, list(in(set(text("a")), set(text("a")))), scope, api.ErrSortType, 1)
		expectFault(t, list(in(text("a"), text("a"))), scope, api.ErrSortType, 1)
		expectFault(t, list(in(num(1), num(1))), scope, api.ErrSortType, 1)
	}
}
