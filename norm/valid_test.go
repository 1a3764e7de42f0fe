package norm_test

import (
	"fmt"
	"math"
	"slices"
	"strings"
	"testing"

	"berth/api"
	"berth/norm"
)

// expectValid: for what a plan is valid: nodes, pods.
func expectValid(t *testing.T, p api.Plan, nodes, pods bool) {
	t.Helper()
	forNodes, forPods := checkValid(t, p)
	if forNodes != nodes || forPods != pods {
		t.Errorf("%+v: for nodes %v, for pods %v", p, forNodes, forPods)
	}
}

// P16.1: each literal where it may stand and where it may not, plain and negated: in Main with selectors, in Main without, in a selector.
func TestLiteralsInTheirPlaces(t *testing.T) {
	yes := []api.PlanPart{constantPart(api.PTrue)}
	for _, part := range []func(api.Lit) api.PlanPart{lit, neg} {
		for _, l := range still() {
			expectValid(t, plan(part(l)), true, true)
			expectValid(t, with(plan(part(l)), yes), true, false)
			expectValid(t, with(plan(yes[0]), []api.PlanPart{part(l)}), true, false)
		}
		for _, l := range moving(api.OfNode) {
			expectValid(t, plan(part(l)), true, false)
			expectValid(t, with(plan(part(l)), yes), true, false)
			expectValid(t, with(plan(yes[0]), yes, []api.PlanPart{part(l)}), false, false)
		}
		for _, l := range moving(api.OfIt) {
			expectValid(t, plan(part(l)), false, true)
			expectValid(t, with(plan(part(l)), yes), false, false)
			expectValid(t, with(plan(yes[0]), yes, []api.PlanPart{part(l)}), true, false)
		}
		for _, l := range ofNodes() {
			selected := l.Kind == api.LitNear || l.Term.Kind == api.TermCount
			expectValid(t, with(plan(part(l)), twoSels()...), true, false)
			expectValid(t, with(plan(part(l)), twoSels()[:1]...), l.Sel+l.Term.Sel == 0, false)
			expectValid(t, plan(part(l)), !selected, false)
			expectValid(t, with(plan(yes[0]), yes, yes, []api.PlanPart{part(l)}), false, false)
		}
	}
}

// P16.1: plans that break one of the seven points, and no other, for nodes.
func TestEachPointAlone(t *testing.T) {
	yes, a := constantPart(api.PTrue), lit(inTexts(labelTerm(api.OfNode, "a"), "x"))
	long := strings.Repeat("k", 128)
	sel := []api.PlanPart{yes}
	signed := func(kind api.PlanKind, kids ...int) api.PlanPart {
		return api.PlanPart{Kind: kind, Neg: true, Kids: kids}
	}
	filled := func(kind api.PlanKind, l api.Lit, kids ...int) api.PlanPart {
		return api.PlanPart{Kind: kind, Lit: l, Kids: kids}
	}
	node, pod, it := api.OfNode, api.OfPod, api.OfIt
	for i, x := range []struct {
		point int
		p     api.Plan
	}{
		{1, api.Plan{}},
		{1, api.Plan{Main: []api.PlanPart{}}},
		{1, with(plan(yes), nil)},
		{1, with(plan(yes), sel, []api.PlanPart{})},
		{1, plan(yes, yes)},
		{1, plan(a, a, join(api.PAnd, 1, 0))},
		{1, plan(a, a, join(api.PAnd, 0, 0))},
		{1, plan(a, a, a, join(api.PAnd, 0, 1))},
		{1, plan(a, a, a, join(api.POr, 1, 2))},
		{1, plan(a, join(api.PAnd, 0, 1))},
		{1, plan(a, a, join(api.PAnd, -1, 0))},
		{1, plan(a, a, join(api.PAnd, 1, math.MaxInt))},
		{1, plan(join(api.PAnd, 1, 2), a, a)},
		{1, plan(a, a, join(api.PAnd, 0, 1), join(api.POr, 0, 2))},
		{1, with(plan(a), []api.PlanPart{yes, yes})},
		{2, plan(a, join(api.PAnd, 0))},
		{2, plan(a, join(api.POr, 0))},
		{2, plan(join(api.PAnd))},
		{2, plan(join(api.POr))},
		{2, plan(yes, join(api.PTrue, 0))},
		{2, plan(yes, yes, join(api.PFalse, 0, 1))},
		{2, plan(a, filled(api.PLit, a.Lit, 0))},
		{2, plan(signed(api.PTrue))},
		{2, plan(signed(api.PFalse))},
		{2, plan(a, a, signed(api.PAnd, 0, 1))},
		{2, plan(a, a, signed(api.POr, 0, 1))},
		{2, plan(filled(api.PTrue, a.Lit))},
		{2, plan(filled(api.PFalse, tol("")))},
		{2, plan(a, a, filled(api.PAnd, a.Lit, 0, 1))},
		{2, plan(a, a, filled(api.POr, tol("x"), 0, 1))},
		{2, plan(constantPart(0))},
		{2, plan(constantPart(6))},
		{2, plan(constantPart(-1))},
		{2, plan(a, a, join(7, 0, 1))},
		{2, with(plan(yes), []api.PlanPart{signed(api.PTrue)})},
		{3, plan(lit(inNums(capTerm("a"), upTo(1000)...)))},
		{4, plan(lit(inTexts(labelTerm(it, "a"))), a, join(api.PAnd, 0, 1))},
		{4, with(plan(lit(inNums(numTerm(it, "a")))), sel)},
		{4, with(plan(lit(inKeys(textTerm("x"), it))), sel)},
		{4, with(plan(lit(beside(nameTerm(it), api.CmpEq, nameTerm(pod)))), sel)},
		{4, with(plan(yes), []api.PlanPart{a})},
		{4, with(plan(yes), []api.PlanPart{lit(inKeys(nameTerm(pod), node))})},
		{4, with(plan(yes), []api.PlanPart{lit(inKeys(nameTerm(node), pod))})},
		{4, with(plan(yes), []api.PlanPart{lit(inTaints(textTerm("x")))})},
		{4, with(plan(yes), []api.PlanPart{lit(tol("x"))})},
		{4, with(plan(yes), []api.PlanPart{lit(inNums(capTerm("x"), 1))})},
		{5, plan(lit(nearLit("z", 0)))},
		{5, with(plan(lit(nearLit("z", 1))), sel)},
		{5, with(plan(lit(nearLit("z", -1))), sel)},
		{5, with(plan(lit(nearLit("z", math.MaxInt))), sel)},
		{5, plan(lit(inNums(countTerm("z", 0))))},
		{5, with(plan(lit(rel(countTerm("z", 2), api.CmpLe, 1))), sel, sel)},
		{5, with(plan(lit(beside(countTerm("z", -1), api.CmpLe, numTerm(pod, "n")))), sel)},
		{5, plan(lit(inTexts(api.Term{Kind: api.TermLabel, Key: "a"})))},
		{5, plan(lit(inTexts(api.Term{Kind: api.TermName})))},
		{5, plan(lit(inNums(api.Term{Kind: api.TermNumber, Key: "n"})))},
		{5, plan(lit(inTexts(api.Term{Kind: api.TermLabel, Side: 4, Key: "a"})))},
		{5, plan(lit(inTexts(api.Term{Kind: api.TermLabel, Side: -1, Key: "a"})))},
		{5, plan(lit(inTexts(api.Term{Kind: api.TermName, Side: node, Key: "a"})))},
		{5, plan(lit(inTexts(api.Term{Kind: api.TermName, Side: node, Sel: 1})))},
		{5, with(plan(lit(inTexts(api.Term{Kind: api.TermLabel, Side: node, Sel: 1}))), sel, sel)},
		{5, plan(lit(inNums(api.Term{Kind: api.TermCap, Side: node, Key: "c"})))},
		{5, plan(lit(inNums(api.Term{Kind: api.TermCap, Side: pod, Key: "c"})))},
		{5, with(plan(lit(inNums(api.Term{Kind: api.TermCount, Side: node, Key: "c"}))), sel)},
		{5, plan(lit(inKeys(api.Term{Kind: api.TermText, Side: pod, Key: "c"}, node)))},
		{5, plan(lit(inTaints(api.Term{Kind: api.TermText, Side: node, Key: "c"})))},
		{5, plan(lit(inKeys(api.Term{Kind: api.TermText, Key: "c", Sel: -1}, node)))},
		{5, plan(lit(beside(numTerm(node, "n"), api.CmpEq, api.Term{Kind: api.TermNumber, Side: pod, Key: "m", Sel: 1})))},
		{5, plan(lit(beside(nameTerm(node), api.CmpEq, api.Term{Kind: api.TermName, Side: pod, Key: "m"})))},
		{6, plan(constantPart(api.PLit))},
		{6, plan(lit(api.Lit{Kind: 8}))},
		{6, plan(lit(api.Lit{Kind: -1}))},
		{6, plan(lit(inTexts(textTerm("a"), "a")))},
		{6, plan(lit(inTexts(api.Term{})))},
		{6, plan(lit(inTexts(api.Term{Kind: 7})))},
		{6, plan(lit(inTexts(labelTerm(node, "a"), "y", "x")))},
		{6, plan(lit(inTexts(labelTerm(node, "a"), "x", "x")))},
		{6, plan(lit(inTexts(labelTerm(node, "a"), "x", "y", "")))},
		{6, plan(lit(inTexts(numTerm(node, "a"), "x")))},
		{6, plan(lit(inNums(labelTerm(node, "a"), 1)))},
		{6, plan(lit(inNums(nameTerm(node), 0)))},
		{6, plan(lit(inNums(capTerm("a"), 2, 1)))},
		{6, plan(lit(inNums(capTerm("a"), 1, 1)))},
		{6, plan(lit(inNums(capTerm("a"), most+1)))},
		{6, plan(lit(inNums(capTerm("a"), -most-1)))},
		{6, plan(lit(inNums(capTerm("a"), math.MinInt, math.MaxInt)))},
		{6, plan(lit(rel(capTerm("a"), api.CmpLe, most+1)))},
		{6, plan(lit(rel(capTerm("a"), api.CmpLe, -most-2)))},
		{6, plan(lit(rel(capTerm("a"), api.CmpGe, most+2)))},
		{6, plan(lit(rel(capTerm("a"), api.CmpGe, -most-1)))},
		{6, plan(lit(rel(capTerm("a"), api.CmpLe, math.MinInt)))},
		{6, plan(lit(rel(capTerm("a"), api.CmpGe, math.MaxInt)))},
		{6, plan(lit(rel(capTerm("a"), api.CmpLt, 1)))},
		{6, plan(lit(rel(capTerm("a"), api.CmpEq, 1)))},
		{6, plan(lit(rel(capTerm("a"), 0, 1)))},
		{6, plan(lit(rel(capTerm("a"), 7, 1)))},
		{6, plan(lit(rel(labelTerm(node, "a"), api.CmpLe, 1)))},
		{6, plan(lit(beside(labelTerm(node, "a"), api.CmpLe, labelTerm(pod, "b"))))},
		{6, plan(lit(beside(labelTerm(node, "a"), api.CmpNe, labelTerm(pod, "b"))))},
		{6, plan(lit(beside(labelTerm(node, "a"), api.CmpEq, labelTerm(node, "b"))))},
		{6, plan(lit(beside(labelTerm(pod, "a"), api.CmpEq, labelTerm(node, "b"))))},
		{6, plan(lit(beside(labelTerm(node, "a"), api.CmpEq, numTerm(pod, "b"))))},
		{6, plan(lit(beside(labelTerm(node, "a"), api.CmpEq, textTerm("b"))))},
		{6, plan(lit(beside(labelTerm(node, "a"), api.CmpEq, api.Term{})))},
		{6, plan(lit(beside(textTerm("a"), api.CmpEq, labelTerm(pod, "b"))))},
		{6, plan(lit(beside(numTerm(node, "a"), api.CmpNe, numTerm(pod, "b"))))},
		{6, plan(lit(beside(numTerm(node, "a"), 7, numTerm(pod, "b"))))},
		{6, plan(lit(beside(numTerm(node, "a"), 0, numTerm(pod, "b"))))},
		{6, plan(lit(beside(numTerm(node, "a"), api.CmpEq, numTerm(node, "b"))))},
		{6, plan(lit(beside(numTerm(pod, "a"), api.CmpEq, capTerm("b"))))},
		{6, plan(lit(beside(numTerm(node, "a"), api.CmpEq, nameTerm(pod))))},
		{6, plan(lit(inKeys(labelTerm(node, "a"), node)))},
		{6, plan(lit(inKeys(nameTerm(node), node)))},
		{6, plan(lit(inKeys(labelTerm(pod, "a"), 0)))},
		{6, plan(lit(inKeys(labelTerm(pod, "a"), 4)))},
		{6, plan(lit(inKeys(textTerm("a"), -1)))},
		{6, plan(lit(inKeys(numTerm(pod, "a"), pod)))},
		{6, plan(lit(inKeys(capTerm("a"), pod)))},
		{6, with(plan(yes), []api.PlanPart{lit(inKeys(nameTerm(it), it))})},
		{6, plan(lit(inTaints(labelTerm(node, "a"))))},
		{6, plan(lit(inTaints(nameTerm(node))))},
		{6, plan(lit(inTaints(numTerm(pod, "a"))))},
		{6, plan(lit(inTaints(api.Term{})))},
		{6, plan(lit(api.Lit{Kind: api.LitTol, Key: "a", Num: 1}))},
		{6, plan(lit(api.Lit{Kind: api.LitTol, Key: "a", Texts: []string{""}}))},
		{6, with(plan(lit(api.Lit{Kind: api.LitNear, Key: "a", Of: node})), sel)},
		{7, plan(lit(inTexts(labelTerm(node, long))))},
		{7, plan(lit(inTexts(labelTerm(node, "a"), long)))},
		{7, plan(lit(inTexts(nameTerm(node), "a", "b", long+long)))},
		{7, plan(lit(inNums(numTerm(node, long))))},
		{7, plan(lit(rel(capTerm(long), api.CmpLe, 1)))},
		{7, with(plan(lit(inNums(countTerm(long, 0)))), sel)},
		{7, plan(lit(beside(nameTerm(node), api.CmpEq, labelTerm(pod, long))))},
		{7, plan(lit(beside(numTerm(node, "a"), api.CmpEq, numTerm(pod, long))))},
		{7, plan(lit(inKeys(textTerm(long), node)))},
		{7, plan(lit(inKeys(textTerm(long), pod)))},
		{7, plan(lit(inTaints(textTerm(long))))},
		{7, plan(lit(inTaints(labelTerm(pod, long))))},
		{7, plan(lit(tol(long)))},
		{7, with(plan(lit(nearLit(long, 0))), sel)},
		{7, with(plan(yes), []api.PlanPart{lit(inTexts(nameTerm(it), long))})},
	} {
		if points := broken(x.p, api.OfNode); !slices.Equal(points, []int{x.point}) || len(broken(x.p, api.OfIt)) == 0 {
			t.Errorf("row %d: %+v breaks %v, for pods %v", i, x.p, points, broken(x.p, api.OfIt))
		}
		if norm.Valid(x.p) {
			t.Errorf("point %d, row %d: %+v is taken", x.point, i, x.p)
		}
	}
}

// upTo are the numbers from 0 on.
func upTo(n int) []int {
	out := make([]int, n)
	for i := range out {
		out[i] = i
	}
	return out
}

// P16.1: texts of MaxText bytes and of one more in every field that has one; any bytes will do.
func TestLengths(t *testing.T) {
	sels := twoSels()
	for _, all := range [][]api.Lit{mainLits(), selectorLits()} {
		for _, l := range all {
			for _, n := range []int{0, 126, 127, 128, 1 << 16} {
				for _, b := range []string{"k", "\x00", "\xff", " "} {
					text := strings.Repeat(b, n)
					for field := range 4 {
						x := l
						switch field {
						case 0:
							x.Key = text
						case 1:
							x.Term.Key = text
						case 2:
							x.Other.Key = text
						case 3:
							x.Texts = []string{text}
						}
						checkValid(t, with(plan(neg(x)), sels...))
						checkValid(t, plan(lit(x)))
					}
				}
			}
		}
	}
	for _, n := range []int{127, 128} {
		word := strings.Repeat("\xff", n)
		ok := n == 127
		expectValid(t, plan(lit(inTexts(labelTerm(api.OfPod, word)))), ok, ok)
		expectValid(t, plan(lit(inTexts(labelTerm(api.OfPod, ""), "", word))), ok, ok)
		expectValid(t, plan(lit(inKeys(textTerm(word), api.OfPod))), ok, ok)
		expectValid(t, plan(lit(tol(word))), ok, false)
		expectValid(t, with(plan(lit(nearLit(word, 1))), sels...), ok, false)
		expectValid(t, with(plan(lit(inNums(countTerm(word, 1), 3))), sels...), ok, false)
	}
}

// P16.1: numbers at both ends of what is allowed and one beyond, in Num and in Nums.
func TestNumbers(t *testing.T) {
	for _, term := range []api.Term{numTerm(api.OfNode, "n"), numTerm(api.OfPod, "n"), capTerm("c"), countTerm("z", 0)} {
		for _, end := range []int{-most - 2, -most - 1, -most, -1, 0, 1, most, most + 1, most + 2, math.MinInt, math.MaxInt} {
			within := -most <= end && end <= most
			for c := api.Cmp(-1); c <= 8; c++ {
				want := c == api.CmpLe && (within || end == -most-1) || c == api.CmpGe && (within || end == most+1)
				if got, _ := checkValid(t, with(plan(lit(rel(term, c, end))), twoSels()...)); got != want {
					t.Errorf("%+v %d %d: %v", term, c, end, got)
				}
			}
			if got, _ := checkValid(t, with(plan(lit(inNums(term, end))), twoSels()...)); got != within {
				t.Errorf("%+v in %d: %v", term, end, got)
			}
		}
	}
}

// P16.1: the measure: 1000 and 1001, made of parts of Main, of selectors, of texts, of numbers, of all of them.
func TestMeasure(t *testing.T) {
	wide := func(kids int) []api.PlanPart {
		return append(slices.Repeat([]api.PlanPart{constantPart(api.PTrue)}, kids), join(api.PAnd, upTo(kids)...))
	}
	deep := func(parts int) []api.PlanPart {
		out := []api.PlanPart{constantPart(api.PFalse)}
		for len(out) < parts {
			at := len(out)
			out = append(out, constantPart(api.PTrue), join(api.POr, at-1, at))
		}
		return out
	}
	texts := make([]string, 1000)
	for i := range texts {
		texts[i] = fmt.Sprintf("%04d", i)
	}
	many := func(n int) [][]api.PlanPart {
		return slices.Repeat([][]api.PlanPart{{constantPart(api.PTrue)}}, n)
	}
	name, count := nameTerm(api.OfNode), numTerm(api.OfPod, "n")
	for _, more := range []int{0, 1} {
		for _, p := range []api.Plan{
			{Main: wide(999 + more)},
			{Main: wide(500), Sels: [][]api.PlanPart{wide(498 + more)}},
			{Main: wide(2), Sels: append(many(2+more), deep(995))},
			{Main: deep(999), Sels: many(1 + more)},
			{Main: many(1)[0], Sels: many(999 + more)},
			plan(lit(inTexts(name, texts[:999+more]...))),
			plan(lit(inNums(count, upTo(999+more)...))),
			plan(lit(inNums(count, upTo(500)...)), neg(inTexts(name, texts[:497+more]...)), join(api.POr, 0, 1)),
			with(plan(lit(inTexts(name, texts[:400]...))), []api.PlanPart{lit(inTexts(nameTerm(api.OfIt), texts[:598+more]...))}),
		} {
			if got, _ := checkValid(t, p); got != (more == 0) || norm.Valid(p) != got || measure(p) != 1000+more {
				t.Errorf("a plan of the measure %d: %v", measure(p), got)
			}
		}
	}
	expectValid(t, api.Plan{Main: deep(999)}, true, true)
	expectValid(t, api.Plan{Main: deep(1001)}, false, false)
	expectValid(t, api.Plan{Main: wide(1 << 17)}, false, false)
	expectValid(t, api.Plan{Main: many(1)[0], Sels: many(1 << 17)}, false, false)
}

// P16.1: each field of each literal set to what it may not, or may, hold.
func TestEachFieldOfEachLiteral(t *testing.T) {
	kinds := map[bool]int{}
	var terms []api.Term
	for kind := api.TermKind(-1); kind <= 7; kind++ {
		for side := api.Side(-1); side <= 4; side++ {
			for _, key := range []string{"", "k"} {
				for _, sel := range []int{-1, 0, 1, 2} {
					terms = append(terms, api.Term{Kind: kind, Side: side, Key: key, Sel: sel})
				}
			}
		}
	}
	try := func(l api.Lit) {
		t.Helper()
		for _, p := range []api.Plan{plan(lit(l)), with(plan(neg(l)), twoSels()...), with(plan(constantPart(api.PTrue)), []api.PlanPart{lit(l)})} {
			nodes, pods := checkValid(t, p)
			kinds[nodes || pods]++
		}
	}
	for _, l := range slices.Concat(mainLits(), selectorLits()) {
		for kind := api.LitKind(-1); kind <= 9; kind++ {
			for c := api.Cmp(-1); c <= 8; c++ {
				x := l
				x.Kind, x.Rel = kind, c
				try(x)
			}
		}
		for _, term := range terms {
			x := l
			x.Term = term
			try(x)
			x = l
			x.Other = term
			try(x)
		}
		for n := -2; n <= 5; n++ {
			for field := range 5 {
				x := l
				switch field {
				case 0:
					x.Num = n
				case 1:
					x.Of = api.Side(n)
				case 2:
					x.Sel = n
				case 3:
					x.Nums = []int{n}
				case 4:
					x.Texts = []string{fmt.Sprint(n)}
				}
				try(x)
			}
		}
		x := l
		x.Key = "k"
		try(x)
		x = l
		x.Texts, x.Nums, x.Key = []string{}, []int{}, ""
		try(x)
	}
	if kinds[true] < 2000 || kinds[false] < 20000 {
		t.Errorf("valid ones and others: %v", kinds)
	}
}

// everyList grows every list of up to so many of these parts, and answers how many are valid, by their lengths.
func everyList(t *testing.T, longest int, parts []api.PlanPart) string {
	valid := make([]int, longest+1)
	var grow func(list []api.PlanPart)
	grow = func(list []api.PlanPart) {
		nodes, pods := checkValid(t, api.Plan{Main: list})
		if nodes != pods {
			t.Fatalf("%+v: %v, %v", list, nodes, pods)
		}
		if nodes {
			valid[len(list)]++
		}
		for i := 0; i < len(parts) && len(list) < longest; i++ {
			grow(append(slices.Clone(list), parts[i]))
		}
	}
	grow(nil)
	return fmt.Sprint(valid)
}

// P16.1: every list of up to three parts with up to two kids each, whatever these are; of up to five with kids that are places ahead.
func TestEveryShortList(t *testing.T) {
	yes, a := constantPart(api.PTrue), lit(inTexts(nameTerm(api.OfPod), "x"))
	some := []api.PlanPart{yes, a, join(api.PAnd), join(api.PTrue, 0), {Kind: api.PLit, Lit: a.Lit, Kids: []int{0}}}
	for i := -1; i <= 3; i++ {
		some = append(some, join(api.PAnd, i))
		for j := -1; j <= 3; j++ {
			some = append(some, join(api.PAnd, i, j))
		}
	}
	if got := everyList(t, 3, some); got != "[0 2 0 4]" {
		t.Errorf("valid lists by their lengths: %s", got)
	}
	few := []api.PlanPart{a, join(api.PAnd, 0, 1), join(api.POr, 1, 2), join(api.PAnd, 0, 2), join(api.PAnd, 2, 3), join(api.POr, 0, 3), join(api.PAnd, 0, 1, 2), join(api.PAnd, 0, 1, 2, 3), join(api.PAnd, 2, 0)}
	if got := everyList(t, 5, few); got != "[0 1 0 1 1 3]" {
		t.Errorf("valid lists by their lengths: %s", got)
	}
}

// R5: nil and empty lists mean the same.
func TestEmptyListsInPlans(t *testing.T) {
	empty := func(part api.PlanPart) api.PlanPart {
		if len(part.Kids) == 0 {
			part.Kids = []int{}
		}
		if len(part.Lit.Texts) == 0 {
			part.Lit.Texts = []string{}
		}
		if len(part.Lit.Nums) == 0 {
			part.Lit.Nums = []int{}
		}
		return part
	}
	for _, l := range mainLits() {
		expectNodes := with(plan(empty(lit(l)), empty(constantPart(api.PTrue)), empty(join(api.PAnd, 0, 1))), twoSels()...)
		expectValid(t, expectNodes, true, false)
	}
	for _, l := range selectorLits() {
		expectPods := api.Plan{Main: []api.PlanPart{empty(lit(l))}, Sels: [][]api.PlanPart{}}
		if _, pods := checkValid(t, expectPods); !pods {
			t.Errorf("%+v", expectPods)
		}
	}
}
