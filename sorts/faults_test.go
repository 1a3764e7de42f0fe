package sorts_test

import (
	"errors"
	"slices"
	"testing"

	"berth/api"
	"berth/sorts"
)

func plain(kind api.Kind, kids ...int) api.Part { return api.Part{Kind: kind, Kids: kids} }

func full(kind api.Kind, text string, num int, kids ...int) api.Part {
	return api.Part{Kind: kind, Text: text, Num: num, Kids: kids}
}

func parts(list ...api.Part) api.Tree { return api.Tree{Parts: list} }

// unfit is a tree that layer 13 refuses, and how.
type unfit struct {
	tree api.Tree
	code api.Errno
	at   int
}

// invalid are trees that layer 13 refuses, by each thing that it looks at.
func invalid() []unfit {
	always, one := plain(api.KTrue), full(api.KNum, "", 1)
	out := []unfit{
		{api.Tree{}, api.ErrTree, 0},
		{api.Tree{Parts: []api.Part{}}, api.ErrTree, 0},
		{list(or(many(1000, no)...)), api.ErrTree, 1000},
		{parts(make([]api.Part, 5000)...), api.ErrTree, 1000},
		{parts(plain(0)), api.ErrTree, 0},
		{parts(plain(21)), api.ErrTree, 0},
		{parts(always, plain(-1), plain(api.KAnd, 0, 1)), api.ErrTree, 1},
		{parts(full(api.KTrue, "x", 0)), api.ErrTree, 0},
		{parts(always, full(api.KNot, "", 1, 0)), api.ErrTree, 1},
		{parts(one, one, full(api.KCmp, "", 0, 0, 1)), api.ErrTree, 2},
		{parts(one, one, full(api.KCmp, "", 7, 0, 1)), api.ErrTree, 2},
		{parts(one, one, full(api.KIn, "", 2, 0, 1)), api.ErrTree, 2},
		{list(equal(num(1), name(0))), api.ErrTree, 1},
		{list(equal(num(1), name(4))), api.ErrTree, 1},
		{list(equal(label(0, "a"), text("b"))), api.ErrTree, 0},
		{list(equal(label(node, long(128)), text("b"))), api.ErrTree, 0},
		{list(equal(text(long(128)), text("b"))), api.ErrTree, 0},
		{list(near(long(128), not(no))), api.ErrTree, 2},
		{list(equal(num(1), num(1000000000000000000))), api.ErrTree, 1},
		{parts(plain(api.KNot)), api.ErrTree, 0},
		{parts(always, plain(api.KAnd, 0)), api.ErrTree, 1},
		{parts(always, always, plain(api.KAnd, 1, 0)), api.ErrTree, 2},
		{parts(always, plain(api.KNot, 0), plain(api.KNot, 0)), api.ErrTree, 2},
		{parts(always, plain(api.KNot, 1)), api.ErrTree, 1},
		{parts(always, plain(api.KNot, -1)), api.ErrTree, 1},
		{list(in(num(1), set(many(65, num(1))...))), api.ErrTree, 66},
		{list(in(num(1), set(set()))), api.ErrTree, 2},
		{list(not(text("a"))), api.ErrTree, 1},
		{list(equal(not(no), num(1))), api.ErrTree, 3},
		{list(integer(yes)), api.ErrTree, 1},
		{parts(always, always), api.ErrTree, 1},
		{parts(always, always, plain(api.KNot, 1)), api.ErrTree, 2},
	}
	for _, s := range termSamples {
		out = append(out, unfit{list(s.twig), api.ErrTree, size(s.twig) - 1})
	}
	return append(out, nested()...)
}

// nested are trees whose nest is above MaxNest, in their first part and further on.
func nested() []unfit {
	deep := no
	for range 33 {
		deep = not(deep)
	}
	return []unfit{
		{list(deep), api.ErrNest, 0},
		{list(or(yes, yes, deep)), api.ErrNest, 2},
		{list(or(equal(text("a"), num(1)), deep)), api.ErrNest, 3},
		{list(near("", deep)), api.ErrNest, 0},
	}
}

// P14.1, P14.2: a tree that layer 13 refuses: its place, and its fault as the cause; in both scopes.
func TestInvalidTrees(t *testing.T) {
	for _, c := range invalid() {
		for _, scope := range both {
			expect(t, c.tree, scope, nil, &api.Fault{Code: api.ErrSortTree, At: c.at, Cause: &api.Fault{Code: c.code, At: c.at}})
			check(t, c.tree, scope)
		}
	}
}

// P14.1: what layer 13 says comes ahead of all rules of this layer, wherever they are broken.
func TestInvalidComesFirst(t *testing.T) {
	for _, f := range faulty {
		for _, c := range nested() {
			tree := list(f.twig)
			n := len(tree.Parts)
			tree.Parts = append(tree.Parts, shifted(c.tree, n)...)
			tree.Parts = append(tree.Parts, plain(api.KOr, n-1, len(tree.Parts)-1))
			cause := &api.Fault{Code: api.ErrNest, At: c.at + n}
			expect(t, tree, f.scope, nil, &api.Fault{Code: api.ErrSortTree, At: c.at + n, Cause: cause})
		}
		tree := list(f.twig)
		tree.Parts = append(tree.Parts, plain(api.KTrue))
		last := len(tree.Parts) - 1
		expect(t, tree, f.scope, nil, &api.Fault{Code: api.ErrSortTree, At: last, Cause: &api.Fault{Code: api.ErrTree, At: last}})
	}
}

// shifted are a tree's parts as they stand so many places further.
func shifted(tree api.Tree, by int) []api.Part {
	out := slices.Clone(tree.Parts)
	for i := range out {
		out[i].Kids = slices.Clone(out[i].Kids)
		for j := range out[i].Kids {
			out[i].Kids[j] += by
		}
	}
	return out
}

// broken is a condition that breaks one rule or two at one of its parts.
type broken struct {
	twig  twig
	scope api.Side
	code  api.Errno
	at    int
}

// faulty are conditions that break a rule, one for each rule of the table and more.
var faulty = []broken{
	{equal(set(), num(1)), api.OfNode, api.ErrSortType, 0},
	{equal(keys(node), text("a")), api.OfNode, api.ErrSortType, 0},
	{equal(text("a"), num(1)), api.OfNode, api.ErrSortType, 1},
	{equal(num(1), text("1")), api.OfNode, api.ErrSortType, 1},
	{cmp(text("a"), api.CmpLt, text("b")), api.OfNode, api.ErrSortType, 2},
	{cmp(name(pod), api.CmpGe, text("b")), api.OfNode, api.ErrSortType, 2},
	{equal(name(node), label(node, "a")), api.OfNode, api.ErrSortSides, 2},
	{in(set(num(1)), set(num(1))), api.OfNode, api.ErrSortType, 1},
	{in(num(1), set(text("a"))), api.OfNode, api.ErrSortType, 2},
	{notin(text("a"), num(1)), api.OfNode, api.ErrSortType, 1},
	{in(name(node), keys(node)), api.OfNode, api.ErrSortSides, 2},
	{near("a", near("b", yes)), api.OfNode, api.ErrSortInner, 1},
	{near("-", yes), api.OfNode, api.ErrSortKey, 1},
	{apart("a b", yes), api.OfNode, api.ErrSortKey, 1},
	{near("a", asked(count("b", yes))), api.OfNode, api.ErrSortInner, 1},
	{asked(count("", yes)), api.OfNode, api.ErrSortKey, 1},
	{near("a", tolerated("NoExecute")), api.OfNode, api.ErrSortScope, 0},
	{tolerated("Never"), api.OfNode, api.ErrSortKey, 0},
	{in(num(1), set(num(1), num(2), text("a"))), api.OfNode, api.ErrSortSet, 3},
	{equal(label(it, "a"), text("b")), api.OfNode, api.ErrSortScope, 0},
	{equal(label(node, ""), text("b")), api.OfNode, api.ErrSortKey, 0},
	{equal(text("b"), name(it)), api.OfNode, api.ErrSortScope, 1},
	{in(text("b"), keys(it)), api.OfNode, api.ErrSortScope, 1},
	{in(text("b"), taints(pod)), api.OfNode, api.ErrSortScope, 1},
	{equal(num(1), capacity(it, "cpu")), api.OfNode, api.ErrSortScope, 1},
	{equal(num(1), capacity(node, "")), api.OfNode, api.ErrSortKey, 1},
	{equal(integer(name(node)), num(1)), api.OfNode, api.ErrSortInt, 0},
	{equal(integer(integer(text("a"))), num(1)), api.OfNode, api.ErrSortInt, 1},
	{near("a", equal(name(it), num(1))), api.OfNode, api.ErrSortType, 1},
	{near("a", equal(name(it), label(it, "a"))), api.OfNode, api.ErrSortSides, 2},
	{near("a", yes), api.OfIt, api.ErrSortInner, 1},
	{apart("", yes), api.OfIt, api.ErrSortInner, 1},
	{asked(count("a", no)), api.OfIt, api.ErrSortInner, 1},
	{tolerated("NoExecute"), api.OfIt, api.ErrSortScope, 0},
	{equal(name(node), text("b")), api.OfIt, api.ErrSortScope, 0},
	{in(name(it), keys(it)), api.OfIt, api.ErrSortSides, 2},
	{cmp(name(it), api.CmpLe, text("b")), api.OfIt, api.ErrSortType, 2},
	{equal(label(it, ".a"), text("b")), api.OfIt, api.ErrSortKey, 0},
	{equal(integer(name(it)), num(1)), api.OfIt, api.ErrSortInt, 0},
}

// P14.1, P14.2: each rule broken alone, as the whole, and deep in a tree.
func TestEachRule(t *testing.T) {
	codes := map[api.Errno]int{}
	for _, f := range faulty {
		codes[f.code]++
		expectFault(t, list(f.twig), f.scope, f.code, f.at)
		for _, shell := range shells {
			w, ahead := f.twig, 0
			for range 6 {
				w, ahead = shell.of(w), ahead+shell.ahead
				expectFault(t, list(w), f.scope, f.code, f.at+ahead)
			}
		}
		if f.scope == api.OfIt {
			for _, s := range selections {
				expectFault(t, list(s.of("zone", f.twig)), api.OfNode, f.code, f.at)
				expectFault(t, list(or(yes, s.of("zone", not(f.twig)))), api.OfNode, f.code, f.at+1)
			}
		}
	}
	for _, code := range []api.Errno{141, 142, 143, 144, 146, 147, 148} {
		if codes[code] == 0 {
			t.Errorf("nothing breaks the rule %d", code)
		}
	}
}

// P14.1: two rules broken at one part: the one that stands first in the table's row is told.
func TestTwoRulesAtOnePart(t *testing.T) {
	for _, f := range []broken{
		{equal(set(), keys(pod)), api.OfNode, api.ErrSortType, 0},
		{equal(keys(node), keys(node)), api.OfNode, api.ErrSortType, 0},
		{cmp(keys(node), api.CmpLt, taints(node)), api.OfNode, api.ErrSortType, 0},
		{cmp(text("a"), api.CmpLt, num(1)), api.OfNode, api.ErrSortType, 1},
		{cmp(name(node), api.CmpLt, capacity(node, "cpu")), api.OfNode, api.ErrSortType, 1},
		{equal(name(node), keys(node)), api.OfNode, api.ErrSortType, 1},
		{cmp(name(node), api.CmpLt, label(node, "a")), api.OfNode, api.ErrSortType, 2},
		{cmp(name(it), api.CmpGe, label(it, "a")), api.OfIt, api.ErrSortType, 2},
		{in(set(), num(1)), api.OfNode, api.ErrSortType, 0},
		{in(keys(node), name(node)), api.OfNode, api.ErrSortType, 0},
		{in(name(node), label(node, "a")), api.OfNode, api.ErrSortType, 1},
		{in(capacity(node, "cpu"), keys(node)), api.OfNode, api.ErrSortType, 1},
		{near("", yes), api.OfIt, api.ErrSortInner, 1},
		{apart("a b", yes), api.OfIt, api.ErrSortInner, 1},
		{asked(count("-", yes)), api.OfIt, api.ErrSortInner, 1},
		{near("a", apart("", yes)), api.OfNode, api.ErrSortInner, 1},
		{tolerated("Never"), api.OfIt, api.ErrSortScope, 0},
		{near("a", tolerated("")), api.OfNode, api.ErrSortScope, 0},
		{in(num(1), set(text("a"), num(1), text("b"), num(2))), api.OfNode, api.ErrSortSet, 2},
		{in(num(1), set(num(1), text("a"), text("b"), num(2))), api.OfNode, api.ErrSortSet, 2},
		{equal(label(it, ""), text("a")), api.OfNode, api.ErrSortScope, 0},
		{equal(label(node, "a b"), text("a")), api.OfIt, api.ErrSortScope, 0},
		{equal(capacity(pod, "Cpu"), num(1)), api.OfNode, api.ErrSortScope, 0},
		{equal(capacity(node, ""), num(1)), api.OfIt, api.ErrSortScope, 0},
		{equal(capacity(it, ""), num(1)), api.OfIt, api.ErrSortScope, 0},
	} {
		expectFault(t, list(f.twig), f.scope, f.code, f.at)
		expectFault(t, list(or(no, f.twig, yes)), f.scope, f.code, f.at+1)
	}
}

// P14.1: rules broken at two parts, in both orders: the part that stands first is told, whatever the rules are.
func TestTwoParts(t *testing.T) {
	for _, f := range faulty {
		for _, g := range faulty {
			if f.scope != g.scope {
				continue
			}
			for _, join := range []func(...twig) twig{and, or} {
				expectFault(t, list(join(f.twig, g.twig)), f.scope, f.code, f.at)
				expectFault(t, list(join(g.twig, f.twig)), f.scope, g.code, g.at)
				expectFault(t, list(join(yes, not(f.twig), no, g.twig)), f.scope, f.code, f.at+1)
			}
			if f.scope == api.OfIt {
				expectFault(t, list(near("", and(f.twig, g.twig))), api.OfNode, f.code, f.at)
				expectFault(t, list(and(near("a", f.twig), near("a", g.twig))), api.OfNode, f.code, f.at)
			}
		}
	}
}

// P14.1: a part is looked at ahead of the part in which it stands, and behind what stands in itself.
func TestInsideFirst(t *testing.T) {
	for _, f := range []broken{
		{equal(label(it, "a"), num(1)), api.OfNode, api.ErrSortScope, 0},
		{equal(set(text("a"), num(1)), keys(it)), api.OfNode, api.ErrSortSet, 1},
		{equal(keys(pod), name(it)), api.OfNode, api.ErrSortScope, 1},
		{equal(integer(label(node, "")), text("a")), api.OfNode, api.ErrSortKey, 0},
		{equal(integer(set(num(1), text("a"))), num(1)), api.OfNode, api.ErrSortSet, 1},
		{equal(integer(taints(pod)), num(1)), api.OfNode, api.ErrSortScope, 0},
		{equal(integer(count("", yes)), num(1)), api.OfNode, api.ErrSortKey, 1},
		{near("", equal(name(node), text("a"))), api.OfNode, api.ErrSortScope, 0},
		{near("", equal(text("a"), num(1))), api.OfIt, api.ErrSortType, 1},
		{near("a", near("", equal(num(1), text("a")))), api.OfNode, api.ErrSortType, 1},
		{and(yes, equal(integer(name(pod)), text("a")), tolerated("")), api.OfNode, api.ErrSortInt, 1},
		{in(name(node), set(text("a"), num(1))), api.OfNode, api.ErrSortSet, 2},
		{equal(count("a", cmp(name(it), api.CmpLt, text("a"))), text("a")), api.OfNode, api.ErrSortType, 2},
	} {
		expectFault(t, list(f.twig), f.scope, f.code, f.at)
	}
}

// R2, P14.2: from outside a fault is met by errors.Is and errors.As; it is the error itself, however deep its part stands, with no name, and with a cause for ErrSortTree alone.
func TestFaultsFromOutside(t *testing.T) {
	for _, f := range faulty {
		for _, depth := range []int{0, 1, 5, 29} {
			w := f.twig
			for range depth {
				w = not(w)
			}
			_, err := sorts.Check(list(w), f.scope)
			var met *api.Fault
			if !errors.As(err, &met) || error(met) != err || met.Code != f.code || met.At != f.at || met.Name != "" || met.Cause != nil {
				t.Fatalf("%s: %v", toldTree(list(w)), err)
			}
			for code := api.ErrSortTree; code <= api.ErrSortSide; code++ {
				if errors.Is(err, code) != (code == f.code) {
					t.Errorf("%s: errors.Is(%v, %d) is wrong", toldTree(list(w)), err, code)
				}
			}
			if errors.Unwrap(err) != nil {
				t.Errorf("%v wraps %v", err, errors.Unwrap(err))
			}
		}
	}
	for _, c := range invalid() {
		_, err := sorts.Check(c.tree, api.OfIt)
		var met *api.Fault
		if !errors.As(err, &met) || error(met) != err || met.Code != api.ErrSortTree || met.At != c.at {
			t.Fatalf("%s: %v", toldTree(c.tree), err)
		}
		if !errors.Is(err, api.ErrSortTree) || !errors.Is(err, c.code) || errors.Is(err, api.ErrSortSide) {
			t.Errorf("%s: errors.Is of %v is wrong", toldTree(c.tree), err)
		}
		var cause *api.Fault
		if !errors.As(errors.Unwrap(err), &cause) || error(cause) != met.Cause || cause.Code != c.code || cause.At != c.at || cause.Cause != nil {
			t.Errorf("%s: the cause of %v is %v", toldTree(c.tree), err, met.Cause)
		}
	}
	_, err := sorts.Check(list(yes), api.Fixed)
	if !errors.Is(err, api.ErrSortSide) || errors.Is(err, api.ErrSortSides) || errors.Unwrap(err) != nil {
		t.Errorf("no scope: %v", err)
	}
}
