package merge_test

import (
	"fmt"
	"math"
	"strings"
	"testing"

	"berth/api"
	"berth/merge"
	"berth/norm"
)

func bare(main ...api.PlanPart) api.Plan { return api.Plan{Main: main} }

func join(kind api.PlanKind, kids ...int) api.PlanPart { return api.PlanPart{Kind: kind, Kids: kids} }

// invalid are plans that aren't valid, by the point that each of them breaks; 0 is the sum of the others: no plan for pods has Sels.
func invalid() map[int][]api.Plan {
	x, y := a.part, b.part
	long := strings.Repeat("x", 128)
	signed := join(api.PAnd, 0, 1)
	signed.Neg = true
	talking := join(api.POr, 0, 1)
	talking.Lit = x.Lit
	constant := yes.part
	constant.Lit = x.Lit
	side := textTerm("x")
	side.Side = api.OfNode
	selected := coresTerm
	selected.Sel = 1
	named := nameTerm(api.OfNode)
	named.Key = "x"
	placed := tol("x")
	placed.part.Lit.Sel = 1
	both := cores(1)
	both.part.Lit.Texts = []string{"a"}
	return map[int][]api.Plan{
		0: {plan(itHas("x", "1"), yes), plan(and(itHas("x", "1"), yes), itHas("x", "1"))},
		1: {{}, bare(), {Main: []api.PlanPart{}, Sels: [][]api.PlanPart{}}, {Main: list(near("a", 0)), Sels: [][]api.PlanPart{{}}}, {Sels: [][]api.PlanPart{list(yes)}}, bare(x, y), bare(x, y, join(api.PAnd, 1, 0)), bare(x, y, join(api.PAnd, 0, 0)), bare(x, y, join(api.PAnd, 0, 2)), bare(x, y, join(api.PAnd, 0, -1)), bare(x, y, join(api.POr, 0, math.MaxInt)), bare(join(api.PAnd, 1, 2), x, y)},
		2: {bare(join(0)), bare(join(6)), bare(join(-1)), bare(join(api.PAnd)), bare(join(api.POr)), bare(x, join(api.PAnd, 0)), bare(x, join(api.PTrue, 0)), bare(x, y, signed), bare(x, y, talking), bare(constant), bare(x, api.PlanPart{Kind: api.PLit, Lit: y.Lit, Kids: []int{0}}), bare(api.PlanPart{Kind: api.PTrue, Neg: true})},
		3: {plan(and(many(1000, a)...)), plan(cores(upTo(1000)...)), plan(and(append(many(499, near("a", 0)), a)...), many(500, yes)...), plan(or(zone("a"), cores(upTo(997)...)))},
		4: {plan(near("a", 0), a), plan(near("a", 0), tol("x")), plan(near("a", 0), near("a", 0)), plan(near("a", 0), nums(capTerm("cpu"), 1)), plan(near("a", 0), inTaints(textTerm("x"))), plan(and(a, itHas("x", "1"))), plan(and(near("a", 0), itHas("x", "1")), yes), plan(near("a", 0), counted(0, 1))},
		5: {plan(lit(api.Lit{Kind: api.LitKeys, Of: api.OfNode, Term: side})), plan(nums(selected, 1)), plan(texts(named, "a")), plan(placed), plan(near("a", 0)), plan(near("a", 1), yes), plan(near("a", -1), yes), plan(counted(1, 1), yes), plan(counted(-1, 1), yes), plan(texts(labelTerm(api.Fixed, "a"), "a"))},
		6: {plan(lit(api.Lit{})), plan(lit(api.Lit{Kind: 8, Key: "x"})), plan(zone("b", "a")), plan(zone("a", "a")), plan(cores(2, 1)), plan(cores(most + 1)), plan(cores(-most - 1)), plan(coresTo(most + 1)), plan(coresTo(-most - 2)), plan(coresFrom(-most - 1)), plan(coresFrom(most + 2)), plan(rel(coresTerm, api.CmpLt, 1)), plan(rel(labelTerm(api.OfNode, "a"), api.CmpLe, 1)), plan(both), plan(texts(textTerm("x"), "a")), plan(beside(coresTerm, api.CmpNe, numTerm(api.OfPod, "m"))), plan(inTaints(labelTerm(api.OfNode, "x")))},
		7: {plan(tol(long)), plan(zone(long)), plan(texts(labelTerm(api.OfNode, long), "a")), plan(near(long, 0), yes), plan(near("a", 0), itHas(long, "1")), plan(beside(labelTerm(api.OfNode, "a"), api.CmpEq, labelTerm(api.OfPod, long)))},
	}
}

func upTo(n int) []int {
	out := make([]int, n)
	for i := range out {
		out[i] = i
	}
	return out
}

// P17.1, R3: plans that aren't valid, by each of the seven points alone.
func TestInvalidPlansAreRefused(t *testing.T) {
	for point, plans := range invalid() {
		for i, p := range plans {
			if norm.Valid(p) {
				t.Errorf("point %d, plan %d is valid", point, i)
			}
			if got, e := merge.Merge(p); e != api.ErrPlan || got.Main != nil || got.Sels != nil {
				t.Errorf("point %d, plan %d: Merge = %+v, %d", point, i, got, e)
			}
			if n := merge.Cost(p); n != 0 {
				t.Errorf("point %d, plan %d: Cost = %d", point, i, n)
			}
		}
	}
}

// P17.1: the number is the chapter's; a fault is refused, too, where the rules would have made it go.
func TestFaultsThatWouldGo(t *testing.T) {
	if api.ErrPlan != 170 {
		t.Error(api.ErrPlan)
	}
	wrong := zone("b", "a")
	for i, p := range []api.Plan{plan(and(no, wrong)), plan(or(a, and(a, wrong))), plan(a, itHas("b", strings.Repeat("x", 128))), plan(and(near("a", 0), no), a)} {
		if _, e := merge.Merge(p); e != api.ErrPlan || merge.Cost(p) != 0 {
			t.Error(i, e)
		}
	}
}

// P17.1: Cost counts the parts of all lists, those of selectors that aren't used too, and no values.
func TestCost(t *testing.T) {
	for want, p := range map[int]api.Plan{
		1:    plan(zone("a", "b", "c")),
		3:    plan(and(a, b)),
		4:    plan(near("a", 0), and(itHas("x", "1"), yes)),
		7:    plan(and(a, or(b, c)), yes, no),
		6:    plan(near("a", 1), yes, and(yes, no), yes),
		1000: plan(and(many(999, a)...)),
		500:  plan(and(many(499, zone("a"))...)),
	} {
		if got := merge.Cost(p); got != want {
			t.Errorf("Cost(%s) = %d, want %d", short(p), got, want)
		}
	}
}

// P1: arguments that are far too great.
func TestGreatArguments(t *testing.T) {
	for i, p := range []api.Plan{
		{Main: make([]api.PlanPart, 1<<17)},
		{Sels: make([][]api.PlanPart, 1<<17)},
		bare(join(api.PAnd, make([]int, 1<<20)...)),
		plan(tol(strings.Repeat("x", 1<<20))),
		plan(zone(make([]string, 1<<20)...)),
		plan(cores(upTo(1 << 20)...)),
	} {
		if got, e := merge.Merge(p); e != api.ErrPlan || fmt.Sprint(got) != fmt.Sprint(api.Plan{}) || merge.Cost(p) != 0 {
			t.Errorf("plan %d: %d", i, e)
		}
	}
}
