package share_test

import (
	"slices"
	"testing"

	"berth/api"
	"berth/merge"
	"berth/norm"
	"berth/share"
)

func sameList(x, y []api.PlanPart) bool {
	return slices.EqualFunc(x, y, func(p, q api.PlanPart) bool {
		return p.Kind == q.Kind && p.Neg == q.Neg && sameLit(p.Lit, q.Lit) && slices.Equal(p.Kids, q.Kids)
	})
}

func samePlan(p, q api.Plan) bool {
	return sameList(p.Main, q.Main) && slices.EqualFunc(p.Sels, q.Sels, sameList)
}

func sameDag(d, e api.Dag) bool {
	return d.Root == e.Root && slices.EqualFunc(d.Parts, e.Parts, alike)
}

// measure is the third point of the plans that are valid.
func measure(p api.Plan) int {
	n := 0
	for _, list := range append([][]api.PlanPart{p.Main}, p.Sels...) {
		n += len(list)
		for _, part := range list {
			n += len(part.Lit.Texts) + len(part.Lit.Nums)
		}
	}
	return n
}

// check holds all promises but the meaning and the memory for a plan that is valid for nodes, and for what layer 17 makes of it; it answers the plan's dag.
func check(t *testing.T, p api.Plan) api.Dag {
	t.Helper()
	got := checkShare(t, p)
	merged, e := merge.Merge(p)
	if e != api.OK {
		t.Fatalf("Merge of %s: %d", short(p), e)
	}
	small := checkShare(t, merged)
	if again, e := share.Unfold(small); e != api.OK || !samePlan(again, merged) {
		t.Fatalf("%s is there and back\n%s, %d", short(merged), short(again), e)
	}
	return got
}

func checkShare(t *testing.T, p api.Plan) api.Dag {
	t.Helper()
	got, e := share.Share(p)
	if want := modelShare(p); e != api.OK || !sameDag(got, want) {
		t.Fatalf("Share of %s\n= %s, %d,\nwant %s", short(p), shortDag(got), e, shortDag(want))
	}
	if !checkValid(t, got) || got.Root != len(got.Parts)-1 || len(got.Parts) > 2*measure(p) {
		t.Fatalf("Share of %s\n= %s: not valid, not rooted in the last part, or too great", short(p), shortDag(got))
	}
	if slices.Contains(reached(got, true), false) {
		t.Fatalf("Share of %s\n= %s: a part isn't reached", short(p), shortDag(got))
	}
	for i, part := range got.Parts {
		if slices.ContainsFunc(got.Parts[:i], func(other api.DagPart) bool { return alike(part, other) }) {
			t.Fatalf("Share of %s\n= %s: part %d stands twice", short(p), shortDag(got), i)
		}
	}
	back := checkUnfold(t, got)
	if !samePlan(back, tidied(p)) || measure(back) > measure(p) {
		t.Fatalf("%s is there and back\n%s", short(p), short(back))
	}
	if again, e := share.Share(back); e != api.OK || !sameDag(again, got) {
		t.Fatalf("Share of %s\n= %s, %d,\nwant %s", short(back), shortDag(again), e, shortDag(got))
	}
	return got
}

// checkUnfold holds Unfold for a valid dag whose plan isn't too great, and answers the plan.
func checkUnfold(t *testing.T, d api.Dag) api.Plan {
	t.Helper()
	p, e := unfold(t, d)
	if e != api.OK {
		t.Fatalf("Unfold of %s: %d", shortDag(d), e)
	}
	return p
}

// unfold holds Unfold for any valid dag.
func unfold(t *testing.T, d api.Dag) (api.Plan, api.Errno) {
	t.Helper()
	got, e := share.Unfold(d)
	want, code := modelUnfold(d)
	if e != code || !samePlan(got, want) || !checkValid(t, d) {
		t.Fatalf("Unfold of %s\n= %s, %d,\nwant %s, %d", shortDag(d), short(got), e, short(want), code)
	}
	if e != api.OK {
		return got, e
	}
	if !norm.Valid(got) || measure(got) > 1000 {
		t.Fatalf("Unfold of %s\n= %s: that isn't valid", shortDag(d), short(got))
	}
	if _, e := share.Share(got); e != api.OK {
		t.Fatalf("Unfold of %s\n= %s: that isn't valid for nodes", shortDag(d), short(got))
	}
	return got, e
}

// expect: which dag a plan has.
func expect(t *testing.T, p api.Plan, want api.Dag) {
	t.Helper()
	if got := check(t, p); !sameDag(got, want) {
		t.Errorf("Share of %s\n= %s,\nwant %s", short(p), shortDag(got), shortDag(want))
	}
}

// gives: which plan a dag gives.
func gives(t *testing.T, d api.Dag, want api.Plan) {
	t.Helper()
	if got := checkUnfold(t, d); !samePlan(got, want) {
		t.Errorf("Unfold of %s\n= %s,\nwant %s", shortDag(d), short(got), short(want))
	}
}

// refused: what Unfold doesn't take.
func refused(t *testing.T, d api.Dag, want api.Errno) {
	t.Helper()
	if got, e := share.Unfold(d); e != want || got.Main != nil || got.Sels != nil {
		t.Errorf("Unfold of %s = %s, %d, want %d", shortDag(d), short(got), e, want)
	}
}
