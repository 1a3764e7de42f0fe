package norm_test

import (
	"math"
	"testing"

	"berth/api"
	"berth/norm"
	"berth/sorts"
)

func part(kind api.Kind, kids ...int) api.Part { return api.Part{Kind: kind, Kids: kids} }

func parts(list ...api.Part) api.Tree { return api.Tree{Parts: list} }

// unfit is a tree that a lower layer refuses, and how.
type unfit struct {
	tree api.Tree
	code api.Errno
}

// invalid are trees that layer 13 refuses.
func invalid() []unfit {
	always := part(api.KTrue)
	return []unfit{
		{api.Tree{}, api.ErrTree},
		{parts(), api.ErrTree},
		{parts(part(0)), api.ErrTree},
		{parts(part(21)), api.ErrTree},
		{parts(always, always), api.ErrTree},
		{parts(always, part(api.KNot, 1)), api.ErrTree},
		{parts(always, part(api.KNot, -1)), api.ErrTree},
		{parts(always, part(api.KNot, math.MaxInt)), api.ErrTree},
		{parts(always, always, part(api.KAnd, 1, 0)), api.ErrTree},
		{parts(part(api.KNear, 0)), api.ErrTree},
		{parts(part(api.KCount)), api.ErrTree},
		{list(text("a")), api.ErrTree},
		{list(name(node)), api.ErrTree},
		{list(count("zone", yes)), api.ErrTree},
		{list(equal(name(0), text("a"))), api.ErrTree},
		{list(cmp(num(1), 7, num(1))), api.ErrTree},
		{list(cmp(num(1), 0, num(1))), api.ErrTree},
		{list(not(num(1))), api.ErrTree},
		{list(and(yes)), api.ErrTree},
		{list(or(many(1000, no)...)), api.ErrTree},
		{list(in(num(1), set(many(65, num(1))...))), api.ErrTree},
		{list(equal(num(1_000_000_000_000_000_000), num(1))), api.ErrTree},
		{list(nots(33, yes)), api.ErrNest},
		{list(near("a b", nots(32, cmp(name(node), api.CmpLt, num(1))))), api.ErrNest},
	}
}

// senseless are trees that layer 14 refuses, as constraints (OfNode) or as selectors (OfIt).
func senseless(scope api.Side) []unfit {
	me := int(scope)
	out := []unfit{
		{list(cmp(name(me), api.CmpLt, text("b"))), api.ErrSortType},
		{list(equal(name(me), num(3))), api.ErrSortType},
		{list(equal(set(num(1)), num(2))), api.ErrSortType},
		{list(in(label(me, "x"), text("x"))), api.ErrSortType},
		{list(in(num(1), keys(pod))), api.ErrSortType},
		{list(equal(name(node+it-me), text("a"))), api.ErrSortScope},
		{list(equal(capacity(pod, "cpu"), num(1))), api.ErrSortScope},
		{list(in(text("a"), taints(it))), api.ErrSortScope},
		{list(near("zone", apart("rack", yes))), api.ErrSortInner},
		{list(asked(count("zone", asked(count("rack", no))))), api.ErrSortInner},
		{list(equal(label(me, "a"), label(me, "b"))), api.ErrSortSides},
		{list(in(name(me), keys(me))), api.ErrSortSides},
		{list(in(text("a"), set(text("a"), num(1)))), api.ErrSortSet},
		{list(equal(label(me, "a b"), text("x"))), api.ErrSortKey},
		{list(equal(integer(name(me)), num(1))), api.ErrSortInt},
		{list(equal(integer(num(1)), num(1))), api.ErrSortInt},
		{list(or(yes, equal(integer(name(me)), num(1)))), api.ErrSortInt},
		{list(and(no, near("zone", equal(name(node), text("a"))))), api.ErrSortScope},
	}
	if scope == api.OfIt {
		return append(out, unfit{list(near("zone", yes)), api.ErrSortInner}, unfit{list(tolerated("NoSchedule")), api.ErrSortScope}, unfit{list(equal(capacity(node, "cpu"), num(1))), api.ErrSortScope})
	}
	return append(out, unfit{list(near("a b", no)), api.ErrSortKey}, unfit{list(tolerated("Never")), api.ErrSortKey}, unfit{list(equal(capacity(node, "CPU"), num(1))), api.ErrSortKey}, unfit{list(cmp(count("zone", yes), api.CmpGe, capacity(node, "cpu"))), api.ErrSortSides})
}

var scopes = []api.Side{api.OfNode, api.OfIt}

// noScopes are sides that are no scopes.
var noScopes = []api.Side{api.Fixed, api.OfPod, 4, -1, math.MaxInt, math.MinInt}

// expectRefused: no plan, and this number.
func expectRefused(t *testing.T, tree api.Tree, scope api.Side, code api.Errno) {
	t.Helper()
	if p, e := norm.Plan(tree, scope); e != code || len(p.Main) != 0 || len(p.Sels) != 0 {
		t.Errorf("Plan(%s, %d) = %+v, %d, want %d", toldTree(tree), scope, p, e, code)
	}
}

// P16.2, R2, R3: layer 13's number comes first, in every scope and in what is none.
func TestInvalidTreesAreRefused(t *testing.T) {
	for _, x := range invalid() {
		for _, scope := range append(noScopes, scopes...) {
			expectRefused(t, x.tree, scope, x.code)
		}
	}
}

// P16.2, R2, R3: then layer 14's: what makes no sense is refused, even where it would fall away.
func TestSenselessTreesAreRefused(t *testing.T) {
	for _, scope := range scopes {
		for _, x := range senseless(scope) {
			expectRefused(t, x.tree, scope, x.code)
			if _, err := sorts.Check(x.tree, scope); err == nil || err.(*api.Fault).Code != x.code {
				t.Errorf("%s: %v", toldTree(x.tree), err)
			}
			for _, none := range noScopes {
				expectRefused(t, x.tree, none, api.ErrSortSide)
			}
		}
	}
}

// P16.2: scopes that are none.
func TestNoScopes(t *testing.T) {
	for _, source := range []string{`true`, `pod["a"] == "x"`, `node.name == "a"`, `it.name == "a"`, `near("z", true)`} {
		for _, scope := range noScopes {
			expectRefused(t, read(t, source), scope, api.ErrSortSide)
		}
	}
}

// P16.2: what hangs on the pod alone has the same plan in both scopes, valid for nodes and for pods; the others are right in their own.
func TestScopes(t *testing.T) {
	for source, want := range map[string][2]bool{
		`true`:                                {true, true},
		`pod["a"] in {"x"} || pod.name != ""`: {true, true},
		`"a" in pod.keys`:                     {true, true},
		`node.name == "a"`:                    {true, false},
		`it.name == "a"`:                      {false, true},
		`apart("z", false)`:                   {true, false},
		`near("z", it.name == "a")`:           {true, false},
	} {
		for i, scope := range scopes {
			if _, e := check(t, read(t, source), scope); (e == api.OK) != want[i] {
				t.Errorf("%s in %d: %d", source, scope, e)
			}
		}
	}
	for _, x := range []struct {
		source      string
		nodes, pods bool
	}{
		{`pod["a"] == "x" && "k" in pod.keys`, true, true},
		{`node["a"] == "x" && "k" in pod.keys`, true, false},
		{`near("z", pod["a"] == "x")`, true, false},
	} {
		p, _ := check(t, read(t, x.source), api.OfNode)
		expectValid(t, p, x.nodes, x.pods)
	}
	p, _ := check(t, read(t, `it["a"] == "x" && "k" in pod.keys`), api.OfIt)
	expectValid(t, p, false, true)
}
