package share_test

import (
	"slices"
	"testing"

	"berth/api"
	"berth/mean"
	"berth/merge"
	"berth/norm"
	"berth/parse"
	"berth/share"
)

// P18.2 to P18.6: random plans for nodes, with their dags' meaning over random clusters.
func TestRandomPlans(t *testing.T) {
	r := newChance(1)
	seen := map[string]int{}
	for range 250 {
		c := r.cluster(t, 1+r.IntN(6), r.IntN(8))
		for range 24 {
			p := r.plan()
			got := check(t, p)
			pod := r.pod(one(r, someNames...))
			was, now := wherePlan(c, p, pod), whereDag(c, got, pod)
			if !slices.Equal(was, now) {
				t.Fatalf("%s holds at %v,\n%s at %v", short(p), was, shortDag(got), now)
			}
			if len(was) > 0 && len(was) < len(c.Nodes()) {
				seen["decided by the node"]++
			}
			if len(got.Parts) < len(p.Main) {
				seen["smaller"]++
			}
			if back, _ := share.Unfold(got); !samePlan(back, p) {
				seen["other selectors"]++
			}
		}
	}
	for _, each := range []string{"decided by the node", "smaller", "other selectors"} {
		if seen[each] < 500 {
			t.Errorf("only %d plans: %s", seen[each], each)
		}
	}
}

// P18.3: random plans with their selectors in other places, some of them twice, and with others between them.
func TestRandomArrangements(t *testing.T) {
	r := newChance(2)
	for range 3000 {
		p := r.plan()
		want := check(t, p)
		places := append(upTo(len(p.Sels)), some(r, upTo(len(p.Sels)))...)
		r.Shuffle(len(places), func(i, j int) { places[i], places[j] = places[j], places[i] })
		if got := check(t, arranged(p, places)); !sameDag(got, want) {
			t.Fatalf("%s has the dag\n%s, with its selectors %v\n%s", short(p), shortDag(want), places, shortDag(got))
		}
	}
}

// P18.1, P18.4, P18.5: random valid dags, with their plans' meaning over random clusters.
func TestRandomDags(t *testing.T) {
	r := newChance(3)
	seen := map[string]int{}
	for range 250 {
		c := r.cluster(t, 1+r.IntN(6), r.IntN(8))
		for range 30 {
			x := r.dag(one(r, 8, 30, 80, 400))
			expectValid(t, x, true)
			p, e := unfold(t, x)
			if e != api.OK {
				seen["too great"]++
				continue
			}
			pod := r.pod(one(r, someNames...))
			was, now := whereDag(c, x, pod), wherePlan(c, p, pod)
			if !slices.Equal(was, now) {
				t.Fatalf("%s holds at %v,\n%s at %v", shortDag(x), was, short(p), now)
			}
			check(t, p)
			seen["taken"]++
			if len(p.Sels) > 1 {
				seen["selectors"]++
			}
			if len(was) > 0 && len(was) < len(c.Nodes()) {
				seen["decided by the node"]++
			}
		}
	}
	for each, least := range map[string]int{"too great": 5, "taken": 5000, "selectors": 100, "decided by the node": 500} {
		if seen[each] < least {
			t.Errorf("only %d dags: %s (%v)", seen[each], each, seen)
		}
	}
}

// P18.1, P18.4, P1: random dags with up to three things changed.
func TestSpoiledDags(t *testing.T) {
	r := newChance(4)
	seen := map[bool]int{}
	for range 8000 {
		x := r.dag(12)
		for range 3 {
			x = r.spoilDag(x)
			valid := checkValid(t, x)
			seen[valid]++
			if valid {
				unfold(t, x)
			} else {
				refused(t, x, api.ErrDag)
			}
		}
	}
	if seen[true] < 2000 || seen[false] < 8000 {
		t.Error(seen)
	}
}

// P1, P18.1: parts that are nothing but chance.
func TestChanceParts(t *testing.T) {
	r := newChance(5)
	for range 20000 {
		x := api.Dag{Root: r.IntN(6) - 1}
		for i := range r.IntN(6) {
			part := api.DagPart{Kind: api.DagKind(r.IntN(9) - 1), Pods: r.IntN(2) == 0}
			for range r.IntN(4) {
				part.Kids = append(part.Kids, one(r, r.IntN(6), i-1, int(r.Uint64())))
			}
			if r.IntN(2) == 0 {
				part.Lit = r.literal(one(r, api.OfNode, api.OfIt), []int{r.IntN(5), -1}).part.Lit
			}
			x.Parts = append(x.Parts, part)
		}
		if checkValid(t, x) {
			unfold(t, x)
		} else {
			refused(t, x, api.ErrDag)
		}
	}
}

// P18.2, P1: random plans with up to three things changed: those that aren't valid for nodes any more are refused.
func TestSpoiledPlans(t *testing.T) {
	r := newChance(6)
	seen := map[string]int{}
	for range 6000 {
		p := one(r, r.plan(), r.plan(), plan(r.part(api.OfIt, nil, r.IntN(4))))
		for range 3 {
			p = r.spoilPlan(p)
			ofIt := slices.ContainsFunc(p.Main, func(part api.PlanPart) bool {
				return part.Lit.Term.Side == api.OfIt || part.Lit.Other.Side == api.OfIt || part.Lit.Of == api.OfIt
			})
			switch {
			case !norm.Valid(p):
				seen["not valid"]++
				refusedPlan(t, p)
			case ofIt:
				seen["for pods"]++
				refusedPlan(t, p)
			default:
				seen["valid"]++
				check(t, p)
			}
		}
	}
	if seen["valid"] < 2000 || seen["not valid"] < 5000 || seen["for pods"] < 500 {
		t.Error(seen)
	}
}

// checkWay: from a source on: its plan, what layer 17 makes of that and what is there and back again hold just where layer 15 says that the constraint does, and none of them grows.
func checkWay(t *testing.T, r chance, source string, clusters int) api.Dag {
	t.Helper()
	tree, _, err := parse.Parse(source)
	if err != nil {
		t.Fatalf("%s: %v", source, err)
	}
	first := read(t, source)
	merged, e := merge.Merge(first)
	shared, code := share.Share(merged)
	back, last := share.Unfold(shared)
	if e != api.OK || code != api.OK || last != api.OK {
		t.Fatalf("%s: %d, %d, %d", source, e, code, last)
	}
	check(t, first)
	if measure(first) > len(tree.Parts) || measure(merged) > measure(first) || measure(back) > measure(merged) || len(shared.Parts) > 2*measure(merged) {
		t.Fatalf("%s grows: %d, %d, %d, %d", source, len(tree.Parts), measure(first), measure(merged), measure(back))
	}
	straight, _ := share.Share(first)
	for range clusters {
		c, pod := r.cluster(t, 6, 8), r.pod("p0")
		want, err := mean.Where(c, tree, pod)
		if err != nil {
			t.Fatal(source, err)
		}
		for i, got := range [][]string{wherePlan(c, first, pod), wherePlan(c, merged, pod), wherePlan(c, back, pod), whereDag(c, shared, pod), whereDag(c, straight, pod)} {
			if !slices.Equal(got, want) {
				t.Fatalf("%s holds at %v, its form %d at %v", source, want, i, got)
			}
		}
	}
	return shared
}

// DOC.md P3, P18.5: sources by hand.
func TestMeaningOfSources(t *testing.T) {
	r := newChance(7)
	for _, source := range []string{
		`node["zone"] in {"x", "y"} && node["rack"] != "x" || !(int(node["n"]) < 2) && int(node["n"]) notin {2, 3}`,
		`count("zone", it["rack"] == "x") >= 1 && (near("rack", it["rack"] == "x") || count("rack", !(it["rack"] == "x")) < 3)`,
		`near("rack", it["n"] == "1") || apart("zone", it["n"] == "1") && apart("zone", it.name == pod.name)`,
		`!(count("rack", false) >= 1) && !(count("rack", false) < 0)`,
		`(tolerated("NoSchedule") || "t" in node.taints) && (node.cap("cpu") > 0 || !("t" in node.taints && tolerated("NoSchedule")))`,
		`int(pod["n"]) >= 1 && int(pod["n"]) <= 1 || int(node["n"]) == int(pod["n"]) && (true || node.name == "a0")`,
		`"zone" in pod.keys && near("zone", "zone" in pod.keys && it.name != pod.name)`,
		`true`, `false`, `apart("zone", true)`,
	} {
		checkWay(t, r, source, 40)
	}
}

// DOC.md P3, P18.5: random sources.
func TestMeaningOfRandomSources(t *testing.T) {
	r := newChance(8)
	pods := 0
	for range 1500 {
		shared := checkWay(t, r, r.source("node", r.IntN(5)), 2)
		if shared.Parts[0].Pods {
			pods++
		}
	}
	if pods < 100 {
		t.Errorf("only %d dags with selectors", pods)
	}
}
