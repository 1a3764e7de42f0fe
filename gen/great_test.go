package gen_test

import (
	"fmt"
	"math"
	"slices"
	"strings"
	"testing"

	"berth/api"
	"berth/share"
)

// locals is a dag with that many locals: literals that are used twice, two and two of them with a selector that is used by both.
func locals(n int) []api.DagPart {
	var parts []api.DagPart
	var kids []int
	for range n / 3 {
		at := len(parts)
		parts = append(parts, s, leaf(near("z", at)), leaf(near("y", at)))
		kids = append(kids, at+1, at+2, at+2, at+1)
	}
	for range n % 3 {
		kids = append(kids, len(parts), len(parts))
		parts = append(parts, a)
	}
	return append(parts, node(api.DOr, kids...))
}

// P19.1: MaxLocals locals and one more.
func TestMostLocals(t *testing.T) {
	for _, n := range []int{1, 2, 3, 1022, 1023, 1024, 1025, 1026, 1200} {
		p, e := try(t, dag(locals(n)...))
		if n <= 1024 && (e != api.OK || p.Locals != n) || n > 1024 && e != api.ErrGreat {
			t.Errorf("%d locals: %d", n, e)
		}
	}
	// parts that aren't reached need none
	if p := check(t, dag(append(locals(1300), a)...)); p.Locals != 0 {
		t.Error(p.Locals)
	}
	if p := check(t, rooted(0, append([]api.DagPart{a}, node(api.DAnd, make([]int, 1999)...))...)); p.Locals != 0 {
		t.Error(p.Locals)
	}
}

// R2: of several errors at one time the first is told.
func TestTheFirstError(t *testing.T) {
	great := locals(1025)
	refused(t, dag(great...), api.ErrGreat)
	both := chain(great, 128, false, api.DAnd)
	refused(t, dag(both...), api.ErrDeep)
	if p, e := try(t, dag(chain(locals(1024), 126, false, api.DAnd)...)); e != api.OK || p.Depth != 128 || p.Locals != 1024 {
		t.Errorf("%d, depth %d, %d locals", e, p.Depth, p.Locals)
	}
	refused(t, dag(chain(locals(1024), 127, false, api.DAnd)...), api.ErrDeep)
	refused(t, dag(chain(great, 126, false, api.DAnd)...), api.ErrGreat)
	refused(t, dag(chain(great, 127, false, api.DAnd)...), api.ErrDeep)
	for _, wrong := range []api.DagPart{node(api.DNot), leaf(zone("b", "a")), node(7), leaf(near("z", -1))} {
		refused(t, rooted(len(both)-1, append(slices.Clone(both), wrong)...), api.ErrDag)
		refused(t, rooted(len(great)-1, append(slices.Clone(great), wrong)...), api.ErrDag)
	}
	refused(t, rooted(0, both...), api.ErrDag) // the Root stands for pods
	refused(t, rooted(len(both), both...), api.ErrDag)
}

// P19.1: the dags with the most constants and with the longest code that there are: none reaches MaxPool or MaxCode.
func TestMostConstantsAndInstructions(t *testing.T) {
	pair := func(i int) (api.Term, api.Term) {
		return numTerm(api.OfPod, fmt.Sprint("k", i)), numTerm(api.OfPod, fmt.Sprint("m", i))
	}
	for i, x := range []struct {
		make         func(i int) api.DagPart
		pools, codes int
	}{
		{func(i int) api.DagPart { k, m := pair(i); return leaf(beside(k, api.CmpLe, m)) }, 3998, 5},
		{func(i int) api.DagPart { k, _ := pair(i); return leaf(rel(k, api.CmpGe, i)) }, 3998, 4},
		{func(i int) api.DagPart {
			k, _ := pair(i)
			return leaf(beside(capTerm(k.Key), api.CmpEq, numTerm(api.OfPod, "m")))
		}, 2000, 3},
		{func(i int) api.DagPart { return leaf(hasKey(fmt.Sprint(i))) }, 1999, 3},
		{func(i int) api.DagPart { return leaf(hasKey("k")) }, 1, 3},
	} {
		p := check(t, dag(append(spread(1999, x.make), node(api.DAnd, upTo(1999)...))...))
		if n := len(p.Texts) + len(p.Nums) + len(p.Sets) + len(p.NumSets); n != x.pools || len(p.Code) != 1999*(x.codes+2)-1 {
			t.Errorf("%d: %d constants, %d instructions", i, n, len(p.Code))
		}
	}
	// a thousand sets, each of one element
	sets := spread(1998, func(i int) api.DagPart {
		switch {
		case i < 500:
			return leaf(texts(labelTerm(api.OfNode, fmt.Sprint("k", i)), fmt.Sprint(i)))
		case i < 1000:
			return leaf(nums(numTerm(api.OfPod, fmt.Sprint("k", i)), i))
		}
		return leaf(rel(capTerm(fmt.Sprint("k", i)), api.CmpLe, i))
	})
	p := check(t, dag(append(sets, node(api.DOr, upTo(1998)...))...))
	if len(p.Texts) != 1998 || len(p.Nums) != 998 || len(p.Sets) != 500 || len(p.NumSets) != 500 {
		t.Error(len(p.Texts), len(p.Nums), len(p.Sets), len(p.NumSets))
	}
	// sets of a thousand elements, of which one is the beginning of the other
	p = check(t, dag(leaf(cores(upTo(501)...)), leaf(cores(upTo(499)...)), node(api.DAnd, 0, 1)))
	if len(p.NumSets) != 2 || len(p.NumSets[0]) != 499 || len(p.NumSets[1]) != 501 || p.Code[0].A != 1 {
		t.Error(short(told(p)))
	}
	p = check(t, dag(leaf(zone(words(1000)...))))
	if len(p.Sets) != 1 || !slices.Equal(p.Sets[0], words(1000)) {
		t.Error(short(told(p)))
	}
}

// P1, P19.1: chains of MaxDag parts.
func TestChains(t *testing.T) {
	nots := []api.DagPart{a}
	for len(nots) < 2000 {
		nots = append(nots, node(api.DNot, len(nots)-1))
	}
	if got := toldCode(check(t, dag(nots...))); got != "Tolerated a"+strings.Repeat("; Not", 1999)+"; End" {
		t.Error(short(got))
	}
	for _, kind := range []api.DagKind{api.DAnd, api.DOr} {
		left, right := chain([]api.DagPart{b, a}, 999, true, kind), chain([]api.DagPart{b, a}, 999, false, kind)
		if p := check(t, dag(left...)); len(left) != 2000 || len(p.Code) != 2+999*3 || p.Depth != 2 || p.Locals != 0 {
			t.Errorf("%d instructions, depth %d", len(p.Code), p.Depth)
		}
		refused(t, dag(right...), api.ErrDeep)
	}
	sels := []api.DagPart{s}
	for len(sels) < 1999 {
		sels = append(sels, forPods(node(api.DNot, len(sels)-1)))
	}
	if p := check(t, dag(append(sels, leaf(near("z", 1998)))...)); len(p.Code) != 2+1998+2 || p.Depth != 1 {
		t.Errorf("%d instructions, depth %d", len(p.Code), p.Depth)
	}
	// MaxDag kids in one part, of one place and of many
	for _, first := range []int{0, 1} {
		if p := check(t, dag(b, a, node(api.DAnd, append([]int{first}, slices.Repeat([]int{1}, 1999)...)...))); len(p.Code) != 2+1999*3+1+1 || p.Locals != 1 {
			t.Errorf("%d instructions, %d locals", len(p.Code), p.Locals)
		}
	}
}

// P1, P19.1: dags whose code would be far longer than any list can be, if parts that are used twice weren't saved.
func TestDoublings(t *testing.T) {
	for _, joints := range []int{1, 10, 31, 64, 999, 1000} {
		for _, kind := range []api.DagKind{api.DAnd, api.DOr} {
			p := check(t, doubling(a, kind, joints))
			if len(p.Code) != 2+joints*5 || p.Locals != joints || p.Depth != 2 {
				t.Errorf("%d joints: %d instructions, %d locals, depth %d", joints, len(p.Code), p.Locals, p.Depth)
			}
			pods := doubling(s, kind, joints)
			pods.Parts = append(pods.Parts, leaf(near("z", joints)))
			pods.Root++
			if p := check(t, pods); len(p.Code) != 3+joints*5+1 || p.Locals != joints {
				t.Errorf("%d joints for pods: %d instructions, %d locals", joints, len(p.Code), p.Locals)
			}
		}
	}
	// doubled by negations: DAnd (x, DNot x)
	parts := []api.DagPart{a}
	for range 600 {
		n := len(parts)
		parts = append(parts, node(api.DNot, n-1), node(api.DAnd, n-1, n))
	}
	if p := check(t, dag(parts...)); p.Locals != 600 || len(p.Code) != 2+600*5 {
		t.Errorf("%d instructions, %d locals", len(p.Code), p.Locals)
	}
	// constants that are doubled aren't saved, what is made of them is
	if p := check(t, doubling(yes, api.DAnd, 1000)); p.Locals != 999 {
		t.Error(p.Locals)
	}
}

// P1: arguments that are far too great.
func TestGreatArguments(t *testing.T) {
	big, text := make([]int, 1<<20), strings.Repeat("x", 1<<20)
	for _, x := range []api.Dag{
		{Parts: make([]api.DagPart, 1<<17)},
		dag(slices.Repeat([]api.DagPart{yes}, 1<<17)...),
		dag(yes, node(api.DAnd, big...)),
		dag(slices.Repeat([]api.DagPart{yes, node(api.DAnd, big...)}, 900)...),
		dag(leaf(tol(text))), dag(leaf(zone(make([]string, 1<<20)...))), dag(leaf(cores(upTo(1 << 20)...))), dag(leaf(zone(slices.Repeat([]string{text}, 1000)...))),
		{Parts: []api.DagPart{yes}, Root: math.MaxInt}, {Parts: []api.DagPart{yes}, Root: math.MinInt},
		{Root: math.MaxInt}, {Parts: []api.DagPart{{Kind: math.MaxInt}}}, {Parts: []api.DagPart{{Kind: math.MinInt, Kids: []int{math.MinInt}}}},
	} {
		if share.Valid(x) {
			t.Error("a dag that is too great is valid")
		}
		refused(t, x, api.ErrDag)
	}
}
