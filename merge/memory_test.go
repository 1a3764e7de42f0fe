package merge_test

import (
	"fmt"
	"slices"
	"sync"
	"testing"

	"berth/api"
	"berth/merge"
)

// wide are plans of all kinds: such as stay, such as are made into others, and such as aren't valid.
func wide() []api.Plan {
	s, u := itHas("x", "1"), itHas("x", "2")
	out := []api.Plan{
		plan(zone("a", "b", "c")), plan(cores(1, 2, 3)), plan(a), plan(yes), plan(zone()), plan(not(cores())),
		plan(and(zone("a", "b"), not(zone("b")), a)),
		plan(and(cores(1, 2, 3), b, texts(nameTerm(api.OfNode), "p", "q"), coresFrom(2))),
		plan(or(and(zone("x", "y"), a), and(zone("x", "y"), a, b), and(b, zone("x", "y")), zone("z"))),
		plan(and(a, or(cores(1, 2), b), or(cores(1, 2), b), and(c, d))),
		plan(or(near("a", 0), counted(1, 1, 2), not(counted(2, 3, 4))), s, s, or(s, u)),
		plan(and(near("a", 2), near("b", 1), near("c", 0), near("d", 3)), and(texts(labelTerm(api.OfIt, "x"), "1", "2"), not(u)), s, u, u),
		plan(and(coresFrom(1), not(cores(1, 2, 4, 6)), coresTo(6))),
		plan(and(coresFrom(1), coresTo(1), a)),
	}
	for _, plans := range invalid() {
		out = append(out, plans...)
	}
	r := newChance(5)
	for range 300 {
		out = append(out, r.plan())
	}
	return out
}

// roomy is a copy of a list with spare room, which is filled with what no call may touch.
func roomy[T any](list []T, spare T) []T {
	return append(append([]T{}, list...), spare, spare, spare)[:len(list)]
}

func roomyPlan(p api.Plan) api.Plan {
	spare := tol("spare").part
	each := func(list []api.PlanPart) []api.PlanPart {
		out := roomy(list, spare)
		for i := range out {
			out[i].Kids, out[i].Lit.Texts, out[i].Lit.Nums = roomy(out[i].Kids, 77), roomy(out[i].Lit.Texts, "spare"), roomy(out[i].Lit.Nums, 77)
		}
		return out
	}
	out := api.Plan{Main: each(p.Main), Sels: roomy(p.Sels, []api.PlanPart{spare})}
	for i := range out.Sels {
		out.Sels[i] = each(out.Sels[i])
	}
	return out
}

// wholePlan is a plan with all that stands in its lists, spare room too, as a text.
func wholePlan(p api.Plan) string {
	out := ""
	for _, list := range append([][]api.PlanPart{p.Main}, p.Sels[:cap(p.Sels)]...) {
		out += fmt.Sprint(len(list), ":")
		for _, part := range list[:cap(list)] {
			texts, nums := part.Lit.Texts, part.Lit.Nums
			out += fmt.Sprintf("%+v %v %q %v;", part, part.Kids[:cap(part.Kids)], texts[:cap(texts)], nums[:cap(nums)])
		}
	}
	return out
}

// P17.5, R6: the plan stays as it is, spare room included.
func TestPlansStayAsTheyAre(t *testing.T) {
	for _, p := range wide() {
		handed := roomyPlan(p)
		was := wholePlan(handed)
		merge.Merge(handed)
		merge.Cost(handed)
		if wholePlan(handed) != was {
			t.Errorf("%s was changed", short(p))
		}
	}
}

// overwrite writes over all that stands in a plan.
func overwrite(p api.Plan) {
	for _, list := range append([][]api.PlanPart{p.Main}, p.Sels...) {
		for i, part := range list {
			clear(part.Kids[:cap(part.Kids)])
			clear(part.Lit.Texts[:cap(part.Lit.Texts)])
			clear(part.Lit.Nums[:cap(part.Lit.Nums)])
			list[i] = no.part
		}
	}
	clear(p.Sels)
}

// P17.5, R6, R9: what is written into a plan later, or into an answer, changes neither what was answered nor what is answered of the plan as it was.
func TestNothingIsKept(t *testing.T) {
	for _, p := range wide() {
		want, code := merge.Merge(copied(p))
		handed := roomyPlan(p)
		got, e := merge.Merge(handed)
		overwrite(handed)
		if e != code || !samePlan(got, want) {
			t.Errorf("the answer has changed to %s, %d", short(got), e)
		}
		overwrite(got)
		if got, e = merge.Merge(p); e != code || !samePlan(got, want) {
			t.Errorf("Merge of %s = %s, %d, want %s", short(p), short(got), e, short(want))
		}
	}
}

// memory knows the address of each element of each list that it has been told of, spare room too.
type memory map[any]bool

// tell: whether no element of a list was known.
func tell[T any](m memory, list []T) bool {
	fresh := true
	all := list[:cap(list)]
	for i := range all {
		fresh = fresh && !m[&all[i]]
		m[&all[i]] = true
	}
	return fresh
}

func (m memory) plan(p api.Plan) bool {
	fresh := tell(m, p.Sels)
	for _, list := range append([][]api.PlanPart{p.Main}, p.Sels...) {
		fresh = tell(m, list) && fresh
		for _, part := range list {
			texts, nums := tell(m, part.Lit.Texts), tell(m, part.Lit.Nums)
			fresh = tell(m, part.Kids) && texts && nums && fresh
		}
	}
	return fresh
}

// P17.5, R6: the lists of an answer are new memory, spare room too: no two of them, no argument and no other answer have an element in one place.
func TestAnswersAreNew(t *testing.T) {
	for _, p := range wide() {
		m, handed := memory{}, roomyPlan(p)
		m.plan(handed)
		for range 3 {
			got, e := merge.Merge(handed)
			if !m.plan(got) {
				t.Errorf("an answer of %s shares memory: %s, %d", short(p), short(got), e)
			}
		}
	}
}

// R5: lists that are nil or empty mean the same.
func TestEmptyLists(t *testing.T) {
	for _, p := range wide() {
		hollow := roomyPlan(p)
		first, code := merge.Merge(p)
		second, other := merge.Merge(hollow)
		if code != other || !samePlan(first, second) || merge.Cost(p) != merge.Cost(hollow) {
			t.Errorf("%s: %s, then %s", short(p), short(first), short(second))
		}
	}
	empty := zone()
	empty.part.Lit.Texts, empty.part.Lit.Nums = []string{}, []int{}
	lone := yes
	lone.part.Lit.Texts = []string{}
	p := plan(and(a, b, a))
	p.Main[0].Lit.Texts, p.Main[1].Lit.Nums, p.Main[1].Kids = []string{}, []int{}, []int{}
	for _, x := range [][2]api.Plan{{plan(empty), plan(no)}, {plan(and(a, lone)), plan(a)}, {plan(or(a, empty)), plan(a)}, {p, plan(and(a, b))}} {
		if got, e := merge.Merge(x[0]); e != api.OK || !samePlan(got, x[1]) {
			t.Errorf("%s, %d", short(got), e)
		}
	}
}

// R9: an answer hangs on the argument alone: not on what was asked before, nor on what is asked at the same time.
func TestAnswersHangOnTheArguments(t *testing.T) {
	plans := wide()
	want := make([]string, len(plans))
	for i, p := range plans {
		got, e := merge.Merge(p)
		want[i] = fmt.Sprint(toldPlan(got), e, merge.Cost(p))
	}
	var all sync.WaitGroup
	for k := range 8 {
		all.Go(func() {
			for i := range 300 {
				at := (i*(k+1) + k) % len(plans)
				got, e := merge.Merge(plans[at])
				if told := fmt.Sprint(toldPlan(got), e, merge.Cost(plans[at])); told != want[at] {
					t.Errorf("%s: %s, want %s", short(plans[at]), told, want[at])
				}
			}
		})
	}
	all.Wait()
}

// R3: what an answer's parts don't use is zero, and a part without kids has none.
func TestUnusedFieldsAreZero(t *testing.T) {
	for _, p := range wide() {
		got, _ := merge.Merge(roomyPlan(p))
		for _, list := range append([][]api.PlanPart{got.Main}, got.Sels...) {
			for _, part := range list {
				joined := part.Kind == api.PAnd || part.Kind == api.POr
				if part.Kind != api.PLit && (part.Neg || part.Lit.Kind != 0) || joined == (len(part.Kids) == 0) {
					t.Errorf("%s: %+v", short(got), part)
				}
			}
		}
		if slices.ContainsFunc(got.Sels, func(sel []api.PlanPart) bool { return len(sel) == 0 }) {
			t.Error("an empty selector")
		}
	}
}
