package mean_test

import (
	"fmt"
	"strings"
	"testing"

	"berth/api"
	"berth/mean"
)

// operand is a term with what it is worth at the node a, for pairPod: nil, a text or a number.
type operand struct {
	term  twig
	worth any
}

// pairPod and the node of pairNodes have each label that operands ask for, or lack it.
var pairPod = api.Pod{Name: "p", Labels: labelled("s", "m", "n", "5", "big", "999999999999999", "z", "05", "e", "")}

var pairNodes = []api.Node{{
	Name:   "a",
	Labels: labelled("s", "m", "n", "5", "big", "999999999999999", "z", "05", "e", "", "low", "-7"),
	Cap:    []api.Item{{Name: "cpu", N: 5}},
}}

var textOperands = []operand{
	{text("m"), "m"}, {text("M"), "M"}, {text(""), ""}, {text("a"), "a"}, {text("m\x00"), "m\x00"},
	{label(node, "s"), "m"}, {label(node, "e"), ""}, {label(node, "gone"), nil}, {name(node), "a"},
	{label(pod, "s"), "m"}, {label(pod, "e"), ""}, {label(pod, "gone"), nil}, {name(pod), "p"},
}

var numberOperands = []operand{
	{num(5), 5}, {num(-7), -7}, {num(0), 0}, {num(999999999999999), 999999999999999}, {num(999999999999999999), 999999999999999999},
	{integer(text("5")), 5}, {integer(text("05")), nil}, {integer(text("")), nil},
	{integer(label(node, "n")), 5}, {integer(label(node, "big")), 999999999999999}, {integer(label(node, "low")), -7},
	{integer(label(node, "z")), nil}, {integer(label(node, "e")), nil}, {integer(label(node, "gone")), nil},
	{integer(label(pod, "n")), 5}, {integer(label(pod, "z")), nil}, {integer(label(pod, "gone")), nil},
	{capacity(node, "cpu"), 5}, {capacity(node, "gone"), 0},
	{count("s", yes), 0}, {count("gone", yes), nil},
}

// moves: whether a term says something of the node.
func moves(w twig) bool {
	return w.part.Kind == api.KCap || w.part.Kind == api.KCount || w.part.Num == node && w.part.Kind != api.KNum || w.part.Kind == api.KInt && moves(w.kids[0])
}

// expectAt: what a condition is worth at the node a.
func expectAt(t *testing.T, w twig, want bool) {
	t.Helper()
	c := clusterOf(t, pairNodes)
	tree := list(w)
	if holds, err := mean.Holds(c, tree, pairPod, "a"); holds != want || err != nil {
		t.Errorf("%s: %v, %v, want %v", told(tree), holds, err, want)
	}
	check(t, c, tree, pairPod)
}

// P15.1, L1: each pair of texts, of the node, of the pod and by themselves, by == and !=: with the first, the second, both and neither of them undefined.
func TestTextsCompared(t *testing.T) {
	seen := map[string]int{}
	for _, a := range textOperands {
		for _, b := range textOperands {
			if moves(a.term) && moves(b.term) {
				continue
			}
			same := a.worth != nil && a.worth == b.worth
			expectAt(t, cmp(a.term, api.CmpEq, b.term), same)
			expectAt(t, cmp(a.term, api.CmpNe, b.term), !same)
			expectAt(t, not(cmp(a.term, api.CmpEq, b.term)), !same)
			seen[fmt.Sprint(a.worth == nil, b.worth == nil, same)]++
		}
	}
	for _, each := range []string{"true true false", "true false false", "false true false", "false false true", "false false false"} {
		if seen[each] < 2 {
			t.Errorf("%s: only %d", each, seen[each])
		}
	}
}

// P15.1, L1: each pair of numbers by each of the six comparisons, likewise.
func TestNumbersCompared(t *testing.T) {
	seen := map[string]int{}
	for _, a := range numberOperands {
		for _, b := range numberOperands {
			if moves(a.term) && moves(b.term) {
				continue
			}
			x, isX := a.worth.(int)
			y, isY := b.worth.(int)
			both := isX && isY
			for by, want := range map[api.Cmp]bool{
				api.CmpEq: both && x == y, api.CmpNe: !(both && x == y),
				api.CmpLt: both && x < y, api.CmpLe: both && x <= y, api.CmpGt: both && x > y, api.CmpGe: both && x >= y,
			} {
				expectAt(t, cmp(a.term, by, b.term), want)
				expectAt(t, not(cmp(a.term, by, b.term)), !want)
				seen[fmt.Sprint(isX, isY, want)]++
			}
		}
	}
	for _, each := range []string{"true true true", "true true false", "true false true", "true false false", "false true true", "false true false", "false false true", "false false false"} {
		if seen[each] < 10 {
			t.Errorf("%s: only %d", each, seen[each])
		}
	}
}

// P15.1, L1: in and notin: in sets of texts, of numbers, of nothing, of doubles, in keys and taints; where the first kid is undefined, notin is true.
func TestMembers(t *testing.T) {
	try := func(a operand, set twig, elements ...any) {
		t.Helper()
		is := false
		for _, e := range elements {
			is = is || a.worth != nil && a.worth == e
		}
		if moves(a.term) && moves(set) {
			return
		}
		expectAt(t, in(a.term, set), is)
		expectAt(t, notin(a.term, set), !is)
		expectAt(t, not(in(a.term, set)), !is)
	}
	for _, a := range textOperands {
		try(a, set())
		try(a, set(text("m")), "m")
		try(a, set(text("z"), text("m"), text("M"), text("m"), text("a")), "z", "m", "M", "a")
		try(a, set(text("")), "")
		try(a, set(text("q"), text("n")), "q", "n")
		try(a, keys(pod), "s", "n", "big", "z", "e")
		try(a, keys(node), "s", "n", "big", "z", "e", "low")
		try(a, taints(node))
	}
	for _, a := range numberOperands {
		try(a, set())
		try(a, set(num(5)), 5)
		try(a, set(num(9), num(5), num(-7), num(5)), 9, 5, -7)
		try(a, set(num(0)), 0)
		try(a, set(num(999999999999999999), num(999999999999999)), 999999999999999999, 999999999999999)
	}
}

// P15.4, L7: which labels labels.Int reads: no noughts ahead, at most 15 digits, no sign but one hyphen; and how int tells of it, at a node and at a pod.
func TestNumbersInLabels(t *testing.T) {
	fifteen, sixteen := strings.Repeat("9", 15), "1"+strings.Repeat("0", 15)
	for _, x := range []struct {
		label string
		want  any
	}{
		{"0", 0}, {"7", 7}, {"-7", -7}, {"10", 10}, {fifteen, 999999999999999}, {"-" + fifteen, -999999999999999},
		{sixteen, nil}, {"-" + sixteen, nil}, {strings.Repeat("9", 16), nil}, {"007", nil}, {"00", nil}, {"-0", nil}, {"-07", nil},
		{"", nil}, {"1e3", nil}, {"7a", nil}, {"--7", nil}, {"7.0", nil}, {"0x7", nil}, {"1_0", nil},
		{"000000000000001", nil}, {"12345678901234", 12345678901234}, {"123456789012345", 123456789012345},
	} {
		c := clusterOf(t, []api.Node{{Name: "a", Labels: labelled("n", x.label)}, {Name: "b", Labels: labelled("m", x.label)}, {Name: "c"}})
		want, n := undefined(api.SortNum), 0
		if x.want != nil {
			n = x.want.(int)
			want = number(n)
		}
		p := api.Pod{Labels: labelled("n", x.label)}
		for _, term := range []twig{integer(label(node, "n")), integer(label(pod, "n")), integer(text(x.label))} {
			for _, w := range []twig{equal(term, num(n)), cmp(term, api.CmpNe, num(n)), cmp(term, api.CmpLe, num(n)), not(cmp(term, api.CmpGt, num(n-1)))} {
				tree := list(w)
				if v, err := mean.Value(c, tree, p, "a", 1); !sameValue(v, want) || err != nil {
					t.Errorf("%s of %q: %+v, %v, want %+v", told(tree), x.label, v, err, want)
				}
				check(t, c, tree, p)
			}
		}
		for _, raw := range []string{"+7", " 7", "7 ", "7\n", "٧", "\xff"} {
			if v, err := mean.Value(c, list(equal(integer(label(pod, "n")), num(7))), api.Pod{Labels: labelled("n", raw)}, "a", 1); v.Known || err != nil {
				t.Errorf("int of %q: %+v, %v", raw, v, err)
			}
		}
		selects, fault := checkSelects(t, list(equal(integer(label(it, "n")), num(n))), api.Pod{}, p)
		if selects != (x.want != nil) || fault != nil {
			t.Errorf("int of %q at a pod: %v, %v", x.label, selects, fault)
		}
	}
}
