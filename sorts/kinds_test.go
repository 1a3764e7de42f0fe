package sorts_test

import (
	"strings"
	"testing"

	"berth/api"
)

// looked is what is wanted of a part in one scope: its type as it is told, or a fault at the part or so many places ahead of it.
type looked struct {
	as    string
	code  api.Errno
	ahead int
}

func as(told string) looked                    { return looked{as: told} }
func refused(code api.Errno, ahead int) looked { return looked{code: code, ahead: ahead} }

// sample is a part with all that stands in it, and what is wanted of it in each scope.
type sample struct {
	twig         twig
	inNode, inIt looked
}

func (s sample) wanted(scope api.Side) looked {
	if scope == api.OfNode {
		return s.inNode
	}
	return s.inIt
}

var (
	noScope = refused(api.ErrSortScope, 0)
	noInner = refused(api.ErrSortInner, 0)
	noKey   = refused(api.ErrSortKey, 0)
)

// termSamples: a term of every kind, with every side, sets of texts, of numbers, of both, of nothing.
var termSamples = []sample{
	{text("a"), as("text Fixed"), as("text Fixed")},
	{text(""), as("text Fixed"), as("text Fixed")},
	{num(7), as("number Fixed"), as("number Fixed")},
	{set(), as("empty Fixed"), as("empty Fixed")},
	{set(text("a"), text("b"), text("a")), as("texts Fixed"), as("texts Fixed")},
	{set(num(2), num(1)), as("numbers Fixed"), as("numbers Fixed")},
	{set(text("a"), num(1), text("b")), refused(api.ErrSortSet, 2), refused(api.ErrSortSet, 2)},
	{set(num(1), num(1), text("b")), refused(api.ErrSortSet, 1), refused(api.ErrSortSet, 1)},
	{label(pod, "a"), as("text OfPod"), as("text OfPod")},
	{label(node, "a"), as("text OfNode"), noScope},
	{label(it, "a"), noScope, as("text OfIt")},
	{label(pod, "a b"), noKey, noKey},
	{name(pod), as("text OfPod"), as("text OfPod")},
	{name(node), as("text OfNode"), noScope},
	{name(it), noScope, as("text OfIt")},
	{keys(pod), as("texts OfPod"), as("texts OfPod")},
	{keys(node), as("texts OfNode"), noScope},
	{keys(it), noScope, as("texts OfIt")},
	{taints(pod), noScope, noScope},
	{taints(node), as("texts OfNode"), noScope},
	{taints(it), noScope, noScope},
	{capacity(pod, "cpu"), noScope, noScope},
	{capacity(node, "cpu"), as("number OfNode"), noScope},
	{capacity(it, "cpu"), noScope, noScope},
	{capacity(node, "Cpu"), noKey, noScope},
	{integer(text("7")), as("number Fixed"), as("number Fixed")},
	{integer(text("x")), as("number Fixed"), as("number Fixed")},
	{integer(label(pod, "a")), as("number OfPod"), as("number OfPod")},
	{integer(label(node, "a")), as("number OfNode"), refused(api.ErrSortScope, 1)},
	{integer(label(it, "a")), refused(api.ErrSortScope, 1), as("number OfIt")},
	{integer(label(pod, "-")), refused(api.ErrSortKey, 1), refused(api.ErrSortKey, 1)},
	{integer(num(7)), refused(api.ErrSortInt, 1), refused(api.ErrSortInt, 1)},
	{integer(set()), refused(api.ErrSortInt, 1), refused(api.ErrSortInt, 1)},
	{integer(set(text("7"))), refused(api.ErrSortInt, 1), refused(api.ErrSortInt, 1)},
	{integer(name(pod)), refused(api.ErrSortInt, 1), refused(api.ErrSortInt, 1)},
	{integer(name(node)), refused(api.ErrSortInt, 1), refused(api.ErrSortScope, 1)},
	{integer(name(it)), refused(api.ErrSortScope, 1), refused(api.ErrSortInt, 1)},
	{integer(keys(pod)), refused(api.ErrSortInt, 1), refused(api.ErrSortInt, 1)},
	{integer(taints(node)), refused(api.ErrSortInt, 1), refused(api.ErrSortScope, 1)},
	{integer(capacity(node, "cpu")), refused(api.ErrSortInt, 1), refused(api.ErrSortScope, 1)},
	{integer(integer(text("7"))), refused(api.ErrSortInt, 1), refused(api.ErrSortInt, 1)},
	{integer(count("a", yes)), refused(api.ErrSortInt, 1), refused(api.ErrSortInner, 1)},
	{count("a", yes), as("number OfNode"), noInner},
	{count("a", equal(name(it), text("b"))), as("number OfNode"), noInner},
	{count("a", equal(name(pod), text("b"))), as("number OfNode"), noInner},
	{count("a", equal(name(node), text("b"))), refused(api.ErrSortScope, 3), refused(api.ErrSortScope, 3)},
	{count("", yes), noKey, noInner},
}

// conditionSamples: a condition of every kind; of those with kids one for each side.
var conditionSamples = []sample{
	{yes, as("bool Fixed"), as("bool Fixed")},
	{no, as("bool Fixed"), as("bool Fixed")},
	{not(yes), as("bool Fixed"), as("bool Fixed")},
	{not(equal(name(pod), text("a"))), as("bool OfPod"), as("bool OfPod")},
	{not(equal(name(node), text("a"))), as("bool OfNode"), refused(api.ErrSortScope, 3)},
	{not(equal(name(it), text("a"))), refused(api.ErrSortScope, 3), as("bool OfIt")},
	{equal(text("a"), text("b")), as("bool Fixed"), as("bool Fixed")},
	{equal(num(1), num(2)), as("bool Fixed"), as("bool Fixed")},
	{equal(name(pod), name(pod)), as("bool OfPod"), as("bool OfPod")},
	{equal(name(pod), label(node, "a")), as("bool OfNode"), refused(api.ErrSortScope, 1)},
	{equal(label(it, "a"), name(pod)), refused(api.ErrSortScope, 2), as("bool OfIt")},
	{in(text("a"), set(text("b"))), as("bool Fixed"), as("bool Fixed")},
	{in(num(1), set()), as("bool Fixed"), as("bool Fixed")},
	{notin(name(pod), keys(pod)), as("bool OfPod"), as("bool OfPod")},
	{in(name(pod), keys(node)), as("bool OfNode"), refused(api.ErrSortScope, 1)},
	{notin(name(it), keys(pod)), refused(api.ErrSortScope, 2), as("bool OfIt")},
	{near("a", yes), as("bool OfNode"), noInner},
	{near("a", equal(name(pod), text("b"))), as("bool OfNode"), noInner},
	{near("a/b/c", yes), noKey, noInner},
	{apart("a", yes), as("bool OfNode"), noInner},
	{apart("a", equal(name(it), text("b"))), as("bool OfNode"), noInner},
	{apart("", yes), noKey, noInner},
	{tolerated("NoSchedule"), as("bool OfNode"), noScope},
	{tolerated("PreferNoSchedule"), as("bool OfNode"), noScope},
	{tolerated("NoExecute"), as("bool OfNode"), noScope},
	{tolerated("noexecute"), noKey, noScope},
}

// expectSample: a tree that ends with a sample's part and so many parts behind it, of which nothing else is refused.
func expectSample(t *testing.T, tree api.Tree, behind int, scope api.Side, want looked) {
	t.Helper()
	at := len(tree.Parts) - 1 - behind
	if want.code != api.OK {
		expectFault(t, tree, scope, want.code, at-want.ahead)
		return
	}
	types, fault := model(tree, scope)
	expect(t, tree, scope, types, fault)
	if got := toldTypes(types[at : at+1]); got != want.as {
		t.Errorf("Check(%s, %d): part %d is %s, want %s", toldTree(tree), scope, at, got, want.as)
	}
}

// fitting is a comparison or a membership that takes a term whose type is told, and how many parts of it stand behind the term.
func fitting(w twig, told string) (tree twig, behind int) {
	switch sort, _, _ := strings.Cut(told, " "); sort {
	case "text":
		return equal(w, text("x")), 2
	case "number":
		return equal(w, num(1)), 2
	case "numbers":
		return in(num(1), w), 1
	}
	return in(text("x"), w), 1
}

// P14.1: a condition of each kind in both scopes, with each side.
func TestConditions(t *testing.T) {
	kinds := map[api.Kind]bool{}
	for _, s := range conditionSamples {
		kinds[s.twig.part.Kind] = true
		for _, scope := range both {
			expectSample(t, list(s.twig), 0, scope, s.wanted(scope))
			expectSample(t, list(not(s.twig)), 1, scope, s.wanted(scope))
			expectSample(t, list(or(yes, s.twig)), 1, scope, s.wanted(scope))
		}
		for _, in := range selections {
			expectSample(t, list(in.of("zone", s.twig)), 1+in.behind, api.OfNode, s.inIt)
		}
	}
	for _, kind := range []api.Kind{api.KTrue, api.KFalse, api.KNot, api.KCmp, api.KIn, api.KNear, api.KApart, api.KTolerated} {
		if !kinds[kind] {
			t.Errorf("no sample of the kind %d", kind)
		}
	}
}

// P14.1: a term of each kind in both scopes, with each side.
func TestTerms(t *testing.T) {
	kinds := map[api.Kind]bool{}
	for _, s := range termSamples {
		kinds[s.twig.part.Kind] = true
		for _, scope := range both {
			tree, behind := fitting(s.twig, s.wanted(scope).as)
			expectSample(t, list(tree), behind, scope, s.wanted(scope))
		}
		tree, behind := fitting(s.twig, s.inIt.as)
		for _, in := range selections {
			expectSample(t, list(in.of("zone", tree)), behind+1+in.behind, api.OfNode, s.inIt)
		}
	}
	for kind := api.KText; kind <= api.KCount; kind++ {
		if !kinds[kind] {
			t.Errorf("no sample of the kind %d", kind)
		}
	}
}

// P14.1: KAnd and KOr of two and of three kids have the joined side: Fixed of fixed ones alone, that of a kid that moves, wherever it stands, else OfPod.
func TestJoinedSides(t *testing.T) {
	for _, scope := range both {
		kid := map[api.Side]twig{
			api.Fixed: equal(num(1), num(2)),
			api.OfPod: equal(name(pod), text("a")),
			scope:     equal(name(int(scope)), text("a")),
		}
		sides := []api.Side{api.Fixed, api.OfPod, scope}
		for _, join := range []func(...twig) twig{and, or} {
			for _, a := range sides {
				for _, b := range sides {
					expectSide(t, join(kid[a], kid[b]), scope, max(a, b))
					expectSide(t, not(join(kid[a], kid[b])), scope, max(a, b))
					for _, c := range sides {
						expectSide(t, join(kid[a], kid[b], kid[c]), scope, max(a, b, c))
						expectSide(t, join(kid[a], not(join(kid[b], kid[c]))), scope, max(a, b, c))
					}
				}
			}
		}
	}
}

// expectSide: the whole is a bool of this side.
func expectSide(t *testing.T, w twig, scope, side api.Side) {
	t.Helper()
	told := toldTypes([]api.Type{{Sort: api.SortBool, Side: side}})
	expectSample(t, list(w), 0, scope, as(told))
}

// P14.1: within one KAnd what moves by itself and what moves by its kids, in the scope of a constraint.
func TestJoinedWithSelections(t *testing.T) {
	for _, c := range []struct {
		source, types string
	}{
		{`near("z", it.name == "a") && true`, "text OfIt; text Fixed; bool OfIt; bool OfNode; bool Fixed; bool OfNode"},
		{`pod.name == "a" || tolerated("NoExecute")`, "text OfPod; text Fixed; bool OfPod; bool OfNode; bool OfNode"},
		{`!apart("z", pod.name == "a")`, "text OfPod; text Fixed; bool OfPod; bool OfNode; bool OfNode"},
		{`count("z", true) > int(pod["x"])`, "bool Fixed; number OfNode; text OfPod; number OfPod; bool OfNode"},
		{`2 notin {1, 2} && "a" in {}`, "number Fixed; number Fixed; number Fixed; numbers Fixed; bool Fixed; text Fixed; empty Fixed; bool Fixed; bool Fixed"},
		{`pod["a"] in node.taints`, "text OfPod; texts OfNode; bool OfNode"},
	} {
		expectTypes(t, read(t, c.source), api.OfNode, c.types)
	}
}
