package gen_test

import (
	"fmt"
	"slices"
	"testing"

	"berth/api"
	"berth/gen"
	"berth/mean"
	"berth/parse"
	"berth/share"
)

// means: the program, run by chapter 22's words, answers just the nodes at which the dag's Root is true by chapter 18.
func means(t *testing.T, w world, d api.Dag, p api.Program, pod api.Pod) []string {
	t.Helper()
	want, got := whereDag(w, d, pod), whereProgram(w, p, pod)
	if !slices.Equal(want, got) {
		t.Fatalf("%s holds at %v,\n%s at %v", short(toldDag(d)), want, short(told(p)), got)
	}
	return want
}

// P19.1 to P19.4: random dags, with their programs' meaning over random clusters.
func TestRandomDags(t *testing.T) {
	r := newChance(1)
	seen := map[string]int{}
	for range 800 {
		w := worldOf(r.cluster(t, 1+r.IntN(6), r.IntN(8)))
		for range 30 {
			x := r.dag(one(r, 4, 8, 30, 80))
			p, e := try(t, x)
			if e != api.OK {
				t.Fatal(e)
			}
			where := means(t, w, x, p, r.pod(one(r, someNames...)))
			if len(where) > 0 && len(where) < len(w.nodes) {
				seen["decided by the node"]++
			}
			if p.Locals > 1 {
				seen["locals"]++
			}
			if slices.ContainsFunc(p.Code, func(i api.Instr) bool { return i.Op == api.OpAndNot }) {
				seen["and not"]++
			}
			if p.Depth > 3 {
				seen["deep"]++
			}
		}
	}
	for _, each := range []string{"decided by the node", "locals", "and not", "deep"} {
		if seen[each] < 400 {
			t.Errorf("only %d dags: %s (%v)", seen[each], each, seen)
		}
	}
}

// P19.1 to P19.4: great random dags, those that are refused too.
func TestGreatRandomDags(t *testing.T) {
	r := newChance(2)
	seen := map[string]int{}
	for range 40 {
		w := worldOf(r.cluster(t, 1+r.IntN(6), r.IntN(8)))
		for range 15 {
			x := r.crowded(one(r, 20, 100, 500), one(r, 1, 4, 40))
			p, e := try(t, x)
			if e != api.OK {
				seen["refused"]++
				continue
			}
			means(t, w, x, p, r.pod(one(r, someNames...)))
			if p.Locals > 100 {
				seen["many locals"]++
			}
			if p.Depth > 10 {
				seen["deep"]++
			}
		}
	}
	if seen["many locals"] < 40 || seen["deep"] < 100 {
		t.Error(seen)
	}
}

// Each literal and each kind of part means what its part does: of the empty cluster, of one without pods, of others.
func TestMeaningOfLiterals(t *testing.T) {
	r := newChance(3)
	for _, sizes := range [][2]int{{0, 0}, {1, 0}, {4, 0}, {1, 1}, {4, 6}, {6, 9}, {6, 9}, {6, 9}} {
		w := worldOf(r.cluster(t, sizes[0], sizes[1]))
		pods := []api.Pod{{}, {Name: "a0"}, r.pod("a0"), r.pod("p0"), {Name: "b0", Labels: []api.Label{{Key: "n", Value: "2"}, {Key: "zone", Value: "x"}, {Key: "rack", Value: "b0"}}}}
		try := func(d api.Dag) {
			t.Helper()
			p := check(t, d)
			for _, pod := range pods {
				means(t, w, d, p, pod)
			}
		}
		for range 150 {
			l, in := r.literal(api.OfNode, []int{0, 1, 2}), r.literal(api.OfIt, nil)
			sels := []api.DagPart{forPods(yes), forPods(leaf(in)), forPods(node(api.DNot, 1))}
			try(dag(append(sels, leaf(l))...))
			try(dag(append(sels, leaf(l), node(api.DNot, 3))...))
			try(dag(append(sels, leaf(l), node(api.DNot, 3), leaf(near("zone", 2)), node(api.DAnd, 5, 4), node(api.DOr, 4, 6))...))
		}
		try(dag(yes))
		try(dag(no))
	}
}

// P1, P19.1: random dags with up to three things changed.
func TestSpoiledDags(t *testing.T) {
	r := newChance(4)
	seen := map[bool]int{}
	for range 5000 {
		x := r.dag(12)
		for range 3 {
			x = r.spoil(x)
			valid := share.Valid(x)
			seen[valid]++
			if valid {
				try(t, x)
			} else {
				refused(t, x, api.ErrDag)
			}
		}
	}
	if seen[true] < 1500 || seen[false] < 5000 {
		t.Error(seen)
	}
}

// P1, P19.1: parts that are nothing but chance.
func TestChanceParts(t *testing.T) {
	r := newChance(5)
	for range 20000 {
		x := api.Dag{Root: r.IntN(6) - 1}
		for i := range r.IntN(6) {
			part := api.DagPart{Kind: api.DagKind(r.IntN(9) - 1), Pods: r.IntN(2) == 0}
			for range r.IntN(4) {
				part.Kids = append(part.Kids, one(r, r.IntN(6), i-1, int(r.Uint64())))
			}
			if r.IntN(2) == 0 {
				part.Lit = r.literal(one(r, api.OfNode, api.OfIt), []int{r.IntN(5), -1})
			}
			x.Parts = append(x.Parts, part)
		}
		if share.Valid(x) {
			try(t, x)
		} else {
			refused(t, x, api.ErrDag)
		}
	}
}

// everyDag grows every dag of up to so many of these parts, with every Root, and answers how many have a program, by the number of parts.
func everyDag(t *testing.T, w world, longest int, parts []api.DagPart) string {
	taken := make([]int, longest+1)
	var grow func(list []api.DagPart)
	grow = func(list []api.DagPart) {
		for root := -1; root <= len(list); root++ {
			x := rooted(root, list...)
			if !share.Valid(x) {
				if _, e := gen.Gen(x); e != api.ErrDag {
					t.Fatalf("%s: %d", short(toldDag(x)), e)
				}
				continue
			}
			taken[len(list)]++
			means(t, w, x, check(t, x), api.Pod{Name: "a0"})
		}
		for i := 0; i < len(parts) && len(list) < longest; i++ {
			grow(append(slices.Clone(list), parts[i]))
		}
	}
	grow(nil)
	return fmt.Sprint(taken)
}

// P19.1 to P19.4: every dag of up to five of these parts.
func TestEveryShortDag(t *testing.T) {
	r := newChance(6)
	w := worldOf(r.cluster(t, 4, 5))
	for _, x := range []struct {
		taken string
		parts []api.DagPart
	}{
		// 2, 3, 4, 6 and 8 of the parts may stand in the places from the first on, each of them as the Root
		{"[0 2 12 72 576 5760]", []api.DagPart{leaf(zone("x")), yes, node(api.DNot, 0), node(api.DAnd, 0, 1), node(api.DNot, 2), node(api.DOr, 2, 2), node(api.DAnd, 1, 2, 3), node(api.DOr, 3, 1)}},
		{"[0 0 4 46 456 4308]", []api.DagPart{forPods(leaf(texts(labelTerm(api.OfIt, "zone"), "x"))), forPods(no), forPods(node(api.DNot, 0)), forPods(node(api.DAnd, 0, 1, 0)), leaf(near("zone", 0)), leaf(counted(1, 1)), leaf(counted(0)), node(api.DOr, 1, 2), node(api.DAnd, 3, 2)}},
	} {
		if got := everyDag(t, w, 5, x.parts); got != x.taken {
			t.Errorf("dags that have a program, by their parts: %s, want %s", got, x.taken)
		}
	}
}

// way: from a source on: of its plan, and of what layer 17 makes of that, there is a program that ends just where layer 15 says that the constraint holds.
func way(t *testing.T, r chance, source string, clusters int) (merged, plain api.Program) {
	t.Helper()
	tree, _, err := parse.Parse(source)
	if err != nil {
		t.Fatalf("%s: %v", source, err)
	}
	first, second := dagsOf(t, source)
	merged, plain = check(t, first), check(t, second)
	for range clusters {
		c, pod := r.cluster(t, 6, 8), r.pod("p0")
		w := worldOf(c)
		want, err := mean.Where(c, tree, pod)
		if err != nil {
			t.Fatal(source, err)
		}
		for i, got := range [][]string{means(t, w, first, merged, pod), means(t, w, second, plain, pod)} {
			if !slices.Equal(got, want) {
				t.Fatalf("%s holds at %v, its program %d at %v", source, want, i, got)
			}
		}
	}
	return merged, plain
}

// DOC.md P3, P19.4: sources by hand.
func TestMeaningOfSources(t *testing.T) {
	r := newChance(7)
	for _, source := range []string{
		`node["zone"] in {"x", "y"} && node["rack"] != "x" || !(int(node["n"]) < 2) && int(node["n"]) notin {2, 3}`,
		`count("zone", it["rack"] == "x") >= 1 && (near("rack", it["rack"] == "x") || count("rack", !(it["rack"] == "x")) < 3)`,
		`near("rack", it["n"] == "1") || apart("zone", it["n"] == "1") && apart("zone", it.name == pod.name)`,
		`!(count("rack", false) >= 1) && !(count("rack", false) < 0)`,
		`(tolerated("NoSchedule") || "t" in node.taints) && (node.cap("cpu") > 0 || !("t" in node.taints && tolerated("NoSchedule")))`,
		`int(pod["n"]) >= 1 && int(pod["n"]) <= 1 || int(node["n"]) == int(pod["n"]) && (true || node.name == "a0")`,
		`"zone" in pod.keys && near("zone", "zone" in pod.keys && it.name != pod.name)`,
		`node["zone"] in pod.keys || node.name in pod.keys || pod["zone"] in node.keys`,
		`int(pod["n"]) in {1, 2} && pod["zone"] in {"x", "y"} && pod.name == "p0"`,
		`true`, `false`, `apart("zone", true)`,
	} {
		way(t, r, source, 40)
	}
}

// DOC.md P3, P19.4: random sources.
func TestMeaningOfRandomSources(t *testing.T) {
	r := newChance(8)
	seen := 0
	for range 5000 {
		if merged, _ := way(t, r, r.source("node", r.IntN(5)), 2); merged.Locals > 0 {
			seen++
		}
	}
	if seen < 100 {
		t.Errorf("only %d programs with locals", seen)
	}
}
