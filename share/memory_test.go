package share_test

import (
	"fmt"
	"slices"
	"strings"
	"sync"
	"testing"

	"berth/api"
	"berth/share"
)

// wide are plans of all kinds: with lists that stand several times, with selectors, and such as aren't valid.
func wide() []api.Plan {
	set := zone("x", "y", "z")
	out := []api.Plan{
		plan(set), plan(cores(1, 2, 3)), plan(yes), plan(not(zone())), plan(and(set, set, not(set))),
		plan(or(and(set, a), and(set, a, b), and(b, cores(1, 2)), cores(1, 2))),
		plan(or(near("a", 0), counted(1, 1, 2), not(counted(2, 3, 4))), s, s, or(s, u)),
		plan(and(near("a", 2), near("b", 1), near("c", 0), near("d", 3)), and(texts(labelTerm(api.OfIt, "x"), "1", "2"), not(u)), s, u, u),
		plan(s), plan(and(s, v)),
	}
	for _, plans := range invalid() {
		out = append(out, plans[:min(len(plans), 20)]...)
	}
	r := newChance(9)
	for range 250 {
		out = append(out, r.plan())
	}
	return out
}

// wideDags are dags of all kinds: those of plans, others, and such as aren't valid.
func wideDags() []api.Dag {
	set := leaf(zone("x", "y", "z"))
	out := []api.Dag{
		dag(set), dag(set, node(api.DAnd, 0, 0, 0)), dag(set, node(api.DNot, 0), node(api.DOr, 0, 1, 0), node(api.DAnd, 2, 2)), doubling(zone("x"), 6), doubling(zone("x"), 60),
		dag(forPods(leaf(texts(nameTerm(api.OfIt), "a", "b"))), forPods(node(api.DAnd, 0, 0)), leaf(near("z", 1)), leaf(counted(0, 1, 2)), leaf(counted(1, 1, 2)), node(api.DOr, 2, 3, 4, 2)),
	}
	for _, dags := range pointsAlone() {
		out = append(out, dags[:min(len(dags), 40)]...)
	}
	r := newChance(10)
	for range 250 {
		out = append(out, r.dag(20))
	}
	for _, p := range wide() {
		if d, e := share.Share(p); e == api.OK {
			out = append(out, d)
		}
	}
	return out
}

// roomy is a copy of a list with spare room, which is filled with what no call may touch.
func roomy[T any](list []T, spare T) []T {
	return append(append([]T{}, list...), spare, spare, spare)[:len(list)]
}

func roomyLit(l api.Lit) api.Lit {
	l.Texts, l.Nums = roomy(l.Texts, "spare"), roomy(l.Nums, 77)
	return l
}

func roomyPlan(p api.Plan) api.Plan {
	spare := tol("spare").part
	each := func(list []api.PlanPart) []api.PlanPart {
		out := roomy(list, spare)
		for i := range out {
			out[i].Kids, out[i].Lit = roomy(out[i].Kids, 77), roomyLit(out[i].Lit)
		}
		return out
	}
	out := api.Plan{Main: each(p.Main), Sels: roomy(p.Sels, []api.PlanPart{spare})}
	for i := range out.Sels {
		out.Sels[i] = each(out.Sels[i])
	}
	return out
}

func roomyDag(d api.Dag) api.Dag {
	d.Parts = roomy(d.Parts, leaf(tol("spare")))
	for i := range d.Parts {
		d.Parts[i].Kids, d.Parts[i].Lit = roomy(d.Parts[i].Kids, 77), roomyLit(d.Parts[i].Lit)
	}
	return d
}

func wholeLit(l api.Lit) string {
	return fmt.Sprintf("%+v %q %v", l, l.Texts[:cap(l.Texts)], l.Nums[:cap(l.Nums)])
}

// wholePlan and wholeDag are all that stands in the lists, spare room too, as a text.
func wholePlan(p api.Plan) string {
	var out strings.Builder
	for _, list := range append([][]api.PlanPart{p.Main}, p.Sels[:cap(p.Sels)]...) {
		fmt.Fprint(&out, len(list), ":")
		for _, part := range list[:cap(list)] {
			fmt.Fprintf(&out, "%+v %v %s;", part, part.Kids[:cap(part.Kids)], wholeLit(part.Lit))
		}
	}
	return out.String()
}

func wholeDag(d api.Dag) string {
	var out strings.Builder
	fmt.Fprint(&out, len(d.Parts), d.Root, ":")
	for _, part := range d.Parts[:cap(d.Parts)] {
		fmt.Fprintf(&out, "%+v %v %s;", part, part.Kids[:cap(part.Kids)], wholeLit(part.Lit))
	}
	return out.String()
}

// R6: the argument stays as it is, spare room included.
func TestArgumentsStayAsTheyAre(t *testing.T) {
	for _, p := range wide() {
		handed := roomyPlan(p)
		was := wholePlan(handed)
		if share.Share(handed); wholePlan(handed) != was {
			t.Errorf("%s was changed", short(p))
		}
	}
	for _, x := range wideDags() {
		handed := roomyDag(x)
		was := wholeDag(handed)
		share.Valid(handed)
		if share.Unfold(handed); wholeDag(handed) != was {
			t.Errorf("%s was changed", shortDag(x))
		}
	}
}

func overwriteLit(l api.Lit) {
	clear(l.Texts[:cap(l.Texts)])
	clear(l.Nums[:cap(l.Nums)])
}

// overwrite and overwriteDag write over all that stands in a plan, in a dag.
func overwrite(p api.Plan) {
	for _, list := range append([][]api.PlanPart{p.Main}, p.Sels...) {
		for i, part := range list {
			clear(part.Kids[:cap(part.Kids)])
			overwriteLit(part.Lit)
			list[i] = no.part
		}
	}
	clear(p.Sels)
}

func overwriteDag(d api.Dag) {
	for i, part := range d.Parts {
		clear(part.Kids[:cap(part.Kids)])
		overwriteLit(part.Lit)
		d.Parts[i] = node(api.DFalse)
	}
}

// R6, R9: what is written into an argument later, or into an answer, changes neither what was answered nor what is answered again.
func TestNothingIsKept(t *testing.T) {
	for _, p := range wide() {
		want, code := share.Share(copiedPlan(p))
		handed := roomyPlan(p)
		got, e := share.Share(handed)
		overwrite(handed)
		if e != code || !sameDag(got, want) {
			t.Errorf("the answer has changed to %s, %d", shortDag(got), e)
		}
		overwriteDag(got)
		if got, e = share.Share(p); e != code || !sameDag(got, want) {
			t.Errorf("Share of %s = %s, %d, want %s", short(p), shortDag(got), e, shortDag(want))
		}
	}
	for _, x := range wideDags() {
		want, code := share.Unfold(copiedDag(x))
		handed := roomyDag(x)
		got, e := share.Unfold(handed)
		overwriteDag(handed)
		if e != code || !samePlan(got, want) {
			t.Errorf("the answer has changed to %s, %d", short(got), e)
		}
		overwrite(got)
		if got, e = share.Unfold(x); e != code || !samePlan(got, want) {
			t.Errorf("Unfold of %s = %s, %d, want %s", shortDag(x), short(got), e, short(want))
		}
	}
}

// memory knows the address of each element of each list that it has been told of, spare room too.
type memory map[any]bool

// tell: whether no element of a list was known.
func tell[T any](m memory, list []T) bool {
	fresh := true
	all := list[:cap(list)]
	for i := range all {
		fresh = fresh && !m[&all[i]]
		m[&all[i]] = true
	}
	return fresh
}

func (m memory) part(kids []int, l api.Lit) bool {
	first, second, third := tell(m, kids), tell(m, l.Texts), tell(m, l.Nums)
	return first && second && third
}

func (m memory) plan(p api.Plan) bool {
	fresh := tell(m, p.Sels)
	for _, list := range append([][]api.PlanPart{p.Main}, p.Sels...) {
		fresh = tell(m, list) && fresh
		for _, part := range list {
			fresh = m.part(part.Kids, part.Lit) && fresh
		}
	}
	return fresh
}

func (m memory) dag(d api.Dag) bool {
	fresh := tell(m, d.Parts)
	for _, part := range d.Parts {
		fresh = m.part(part.Kids, part.Lit) && fresh
	}
	return fresh
}

// R6: the lists of an answer are new memory, spare room too: no two of them, no argument and no other answer have an element in one place.
func TestAnswersAreNew(t *testing.T) {
	for _, p := range wide() {
		m, handed := memory{}, roomyPlan(p)
		m.plan(handed)
		for range 3 {
			if got, e := share.Share(handed); !m.dag(got) {
				t.Errorf("an answer of %s shares memory: %s, %d", short(p), shortDag(got), e)
			}
		}
	}
	for _, x := range wideDags() {
		m, handed := memory{}, roomyDag(x)
		m.dag(handed)
		for range 3 {
			if got, e := share.Unfold(handed); !m.plan(got) {
				t.Errorf("an answer of %s shares memory: %s, %d", shortDag(x), short(got), e)
			}
		}
	}
}

// R5: lists that are nil or empty mean the same.
func TestEmptyLists(t *testing.T) {
	for _, p := range wide() {
		first, code := share.Share(p)
		if second, e := share.Share(roomyPlan(p)); e != code || !sameDag(first, second) {
			t.Errorf("%s: %s, then %s", short(p), shortDag(first), shortDag(second))
		}
	}
	for _, x := range wideDags() {
		first, code := share.Unfold(x)
		second, e := share.Unfold(roomyDag(x))
		if e != code || !samePlan(first, second) || share.Valid(x) != share.Valid(roomyDag(x)) {
			t.Errorf("%s: %s, then %s", shortDag(x), short(first), short(second))
		}
	}
}

// R9: an answer hangs on the argument alone: not on what was asked before, nor on what is asked at the same time.
func TestAnswersHangOnTheArguments(t *testing.T) {
	plans, dags := wide(), wideDags()
	ask := func(i int) string {
		first, code := share.Share(plans[i%len(plans)])
		x := dags[i%len(dags)]
		second, e := share.Unfold(x)
		return fmt.Sprint(toldDag(first), code, toldPlan(second), e, share.Valid(x))
	}
	n := max(len(plans), len(dags))
	want := make([]string, n)
	for i := range n {
		want[i] = ask(i)
	}
	var all sync.WaitGroup
	for k := range 8 {
		all.Go(func() {
			for i := range 300 {
				at := (i*(k+1) + k) % n
				if told := ask(at); told != want[at] {
					t.Errorf("%d: %s, want %s", at, begin(told), begin(want[at]))
				}
			}
		})
	}
	all.Wait()
}

// What an answer's parts don't use is zero, and only joints and DNot have kids.
func TestUnusedFieldsAreZero(t *testing.T) {
	for _, p := range wide() {
		got, _ := share.Share(roomyPlan(p))
		for _, part := range got.Parts {
			kids := part.Kind == api.DAnd || part.Kind == api.DOr || part.Kind == api.DNot
			if part.Kind != api.DLit && !isZero(part.Lit) || kids == (len(part.Kids) == 0) {
				t.Errorf("%s: %+v", shortDag(got), part)
			}
		}
	}
	for _, x := range wideDags() {
		got, _ := share.Unfold(roomyDag(x))
		for _, list := range append([][]api.PlanPart{got.Main}, got.Sels...) {
			for _, part := range list {
				joined := part.Kind == api.PAnd || part.Kind == api.POr
				if part.Kind != api.PLit && (part.Neg || !isZero(part.Lit)) || joined == (len(part.Kids) == 0) {
					t.Errorf("%s: %+v", short(got), part)
				}
			}
		}
		if slices.ContainsFunc(got.Sels, func(sel []api.PlanPart) bool { return len(sel) == 0 }) {
			t.Error("an empty selector")
		}
	}
}
