package share_test

import (
	"math"
	"slices"
	"strings"
	"testing"

	"berth/api"
	"berth/norm"
	"berth/share"
)

func bare(main ...api.PlanPart) api.Plan { return api.Plan{Main: main} }

func join(kind api.PlanKind, kids ...int) api.PlanPart { return api.PlanPart{Kind: kind, Kids: kids} }

// invalid are plans that norm.Valid refuses, by the point that each of them breaks.
func invalid() map[int][]api.Plan {
	x, y := a.part, b.part
	long := strings.Repeat("x", 128)
	signed, talking, constant := join(api.PAnd, 0, 1), join(api.POr, 0, 1), yes.part
	signed.Neg, talking.Lit, constant.Lit = true, x.Lit, x.Lit
	out := map[int][]api.Plan{
		1: {{}, bare(), {Main: []api.PlanPart{}, Sels: [][]api.PlanPart{}}, {Main: list(near("a", 0)), Sels: [][]api.PlanPart{{}}}, {Main: list(a), Sels: [][]api.PlanPart{nil}}, {Sels: [][]api.PlanPart{list(yes)}}, bare(x, y), bare(x, y, join(api.PAnd, 1, 0)), bare(x, y, join(api.PAnd, 0, 0)), bare(x, y, join(api.PAnd, 0, 2)), bare(x, y, join(api.PAnd, 0, -1)), bare(x, y, join(api.POr, 0, math.MaxInt)), bare(join(api.PAnd, 1, 2), x, y)},
		2: {bare(join(0)), bare(join(6)), bare(join(-1)), bare(join(api.PAnd)), bare(join(api.POr)), bare(x, join(api.PAnd, 0)), bare(x, join(api.PTrue, 0)), bare(x, y, signed), bare(x, y, talking), bare(constant), bare(x, api.PlanPart{Kind: api.PLit, Lit: y.Lit, Kids: []int{0}}), bare(api.PlanPart{Kind: api.PTrue, Neg: true})},
		3: {plan(and(many(1000, a)...)), plan(cores(upTo(1000)...)), plan(and(append(many(499, near("a", 0)), a)...), many(500, yes)...), plan(or(zone("a"), cores(upTo(997)...))), plan(a, many(1000, yes)...)},
		4: {plan(near("a", 0), a), plan(near("a", 0), tol("x")), plan(near("a", 0), near("a", 0)), plan(near("a", 0), nums(capTerm("cpu"), 1)), plan(near("a", 0), inTaints(textTerm("x"))), plan(and(a, s)), plan(and(near("a", 0), s), yes), plan(near("a", 0), counted(0, 1)), plan(s, yes), plan(a, a)},
		5: {plan(near("a", 0)), plan(near("a", 1), yes), plan(near("a", -1), yes), plan(counted(1, 1), yes), plan(counted(-1, 1), yes), plan(texts(labelTerm(api.Fixed, "a"), "a"))},
		7: {plan(tol(long)), plan(zone(long)), plan(texts(labelTerm(api.OfNode, long), "a")), plan(near(long, 0), yes), plan(near("a", 0), itHas(long, "1"))},
	}
	for _, l := range wrongInMain() {
		out[6] = append(out[6], plan(lit(l), yes), plan(and(a, not(lit(l))), yes))
	}
	for _, l := range wrongInSelectors() {
		out[6] = append(out[6], plan(near("a", 0), lit(l)), plan(near("a", 0), s, or(not(lit(l)), s)))
	}
	return out
}

// P18.2, R3: plans that norm.Valid refuses.
func TestInvalidPlansAreRefused(t *testing.T) {
	for point, plans := range invalid() {
		for i, p := range plans {
			if norm.Valid(p) {
				t.Errorf("point %d, plan %d is valid: %s", point, i, short(p))
			}
			refusedPlan(t, p)
		}
	}
}

func refusedPlan(t *testing.T, p api.Plan) {
	t.Helper()
	if got, e := share.Share(p); e != api.ErrPlan || got.Parts != nil || got.Root != 0 {
		t.Errorf("Share of %s = %s, %d", short(p), shortDag(got), e)
	}
}

// P18.2: plans for pods are refused, wherever in Main something has the side OfIt; those that are valid for both aren't.
func TestPlansForPods(t *testing.T) {
	for _, w := range moving(api.OfIt) {
		for _, p := range []api.Plan{plan(w), plan(not(w)), plan(and(tolerant, w)), plan(or(w, yes)), plan(and(or(no, not(w)), tolerant, yes))} {
			if !norm.Valid(p) {
				t.Errorf("%s isn't valid", short(p))
			}
			refusedPlan(t, p)
		}
	}
	for _, w := range still() {
		expect(t, plan(w), dag(leaf(w)))
		expect(t, plan(or(w, not(w))), dag(leaf(w), node(api.DNot, 0), node(api.DOr, 0, 1)))
		expect(t, plan(w, s), dag(leaf(w)))
	}
	// the measure is 1000: there is no room for a selector to try it with
	full := spread(999, func(i int) twig { return inKeys(textTerm(words(999)[i]), api.OfPod) })
	if got := check(t, plan(and(full...))); len(got.Parts) != 1000 {
		t.Errorf("%d parts", len(got.Parts))
	}
	full[998] = v
	refusedPlan(t, plan(and(full...)))
	refusedPlan(t, plan(texts(nameTerm(api.OfIt), words(999)...)))
	if got := check(t, plan(texts(nameTerm(api.OfPod), words(999)...))); len(got.Parts) != 1 {
		t.Errorf("%d parts", len(got.Parts))
	}
}

// P18.2: a fault is refused, too, where it would be nowhere in the dag.
func TestFaultsThatWouldGo(t *testing.T) {
	wrong := zone("b", "a")
	for _, p := range []api.Plan{plan(a, itHas("b", strings.Repeat("x", 128))), plan(and(a, wrong, a)), plan(a, a), plan(near("z", 0), s, and(s, wrong)), {Main: list(a), Sels: [][]api.PlanPart{{}}}} {
		refusedPlan(t, p)
	}
	refusedPlan(t, plan(and(many(1000, a)...))) // two parts of a dag would do
	for _, x := range []api.Dag{rooted(0, leaf(a), node(api.DNot)), rooted(0, leaf(a), leaf(wrong)), rooted(0, leaf(a), forPods(leaf(a))), rooted(0, leaf(a), leaf(near("z", 0)))} {
		refused(t, x, api.ErrDag)
	}
}

// R2, R3: beside an error the other result is zero, to the last field.
func TestNothingBesideAnError(t *testing.T) {
	for _, plans := range invalid() {
		for _, p := range plans {
			if got, e := share.Share(p); e == api.OK || got.Parts != nil || got.Root != 0 {
				t.Errorf("%s, %d", shortDag(got), e)
			}
		}
	}
	for _, x := range slices.Concat(pointsAlone()[2], pointsAlone()[3], []api.Dag{doubling(a, 10), doubling(zone("x"), 1000)}) {
		if got, e := share.Unfold(x); e == api.OK || got.Main != nil || got.Sels != nil {
			t.Errorf("%s, %d", short(got), e)
		}
	}
}
