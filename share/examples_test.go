package share_test

import (
	"slices"
	"testing"

	"berth/api"
	"berth/share"
)

// doubling is a literal with that many DAnd above it, each of which has the one below it as its kid twice.
func doubling(w twig, ands int) api.Dag {
	parts := []api.DagPart{leaf(w)}
	for i := range ands {
		parts = append(parts, node(api.DAnd, i, i))
	}
	return dag(parts...)
}

// P18.2 to P18.5: the chapter's examples.
func TestExamples(t *testing.T) {
	expect(t, plan(or(and(a, b), not(a))), dag(leaf(a), leaf(b), node(api.DAnd, 0, 1), node(api.DNot, 0), node(api.DOr, 2, 3)))

	p := plan(or(near("zone", 0), near("rack", 1)), s, s)
	shared := dag(forPods(leaf(s)), leaf(near("zone", 0)), leaf(near("rack", 0)), node(api.DOr, 1, 2))
	expect(t, p, shared)
	gives(t, shared, plan(or(near("zone", 0), near("rack", 0)), s))

	expect(t, plan(yes), dag(node(api.DTrue)))

	refused(t, doubling(a, 12), api.ErrUnfold)
	p = checkUnfold(t, doubling(a, 8))
	joints := slices.DeleteFunc(slices.Clone(p.Main), func(part api.PlanPart) bool { return part.Kind != api.PAnd })
	if len(p.Main) != 511 || len(joints) != 255 || len(p.Sels) != 0 {
		t.Errorf("%d parts, %d of them joints", len(p.Main), len(joints))
	}

	gives(t, dag(leaf(a), node(api.DNot, 0), node(api.DNot, 1), node(api.DAnd, 0, 2), node(api.DNot, 3)), plan(or(not(a), not(a))))
}

// P18.2: the example of the whole that layer 19 goes on with, and the chapter's first ones, from their sources on.
func TestExamplesOfSources(t *testing.T) {
	disk := texts(labelTerm(api.OfNode, "disk"), "nvme", "ssd")
	want := dag(leaf(zone("x")), leaf(disk), node(api.DNot, 1), node(api.DAnd, 0, 2))
	expect(t, read(t, `node["zone"] == "x" && !(node["disk"] in {"ssd", "nvme"})`), want)
	app := beside(labelTerm(api.OfIt, "app"), api.CmpEq, labelTerm(api.OfPod, "app"))
	expect(t, read(t, `near("zone", it["app"] == pod["app"])`), dag(forPods(leaf(app)), leaf(near("zone", 0))))
	expect(t, read(t, `near("zone", it["x"] == "1") || near("rack", it["x"] == "1")`), dag(forPods(leaf(s)), leaf(near("zone", 0)), leaf(near("rack", 0)), node(api.DOr, 1, 2)))
	expect(t, read(t, `apart("zone", false)`), dag(node(api.DTrue)))
}

// The errors have the chapter's numbers.
func TestNumbers(t *testing.T) {
	if api.ErrPlan != 170 || api.ErrUnfold != 180 || api.ErrDag != 190 || api.MaxDag != 2000 || api.MaxParts != 1000 {
		t.Error(api.ErrPlan, api.ErrUnfold, api.ErrDag, api.MaxDag, api.MaxParts)
	}
	if _, e := share.Share(api.Plan{}); e != 170 {
		t.Error(e)
	}
	if _, e := share.Unfold(api.Dag{}); e != 190 {
		t.Error(e)
	}
	if _, e := share.Unfold(doubling(a, 10)); e != 180 {
		t.Error(e)
	}
}
