package mean_test

import (
	"fmt"
	"slices"
	"strings"
	"testing"

	"berth/api"
	"berth/cluster"
	"berth/mean"
	"berth/show"
)

// fullCluster has MaxNodes nodes, in 8 zones but for each ninth, and MaxPods bound pods, as many on each.
func fullCluster(t *testing.T) *cluster.Cluster {
	t.Helper()
	var nodes []api.Node
	var pods []stand
	for i := range api.MaxNodes {
		n := api.Node{Name: fmt.Sprintf("n%03d", i)}
		if i%9 > 0 {
			n.Labels = labelled("zone", fmt.Sprint(i%8), "host", n.Name)
		}
		nodes = append(nodes, n)
	}
	for i := range api.MaxPods {
		p := api.Pod{Name: fmt.Sprint("p", i), Labels: labelled("app", fmt.Sprint(i%3), "n", fmt.Sprint(i))}
		pods = append(pods, stand{p, nodes[i%api.MaxNodes].Name})
	}
	return clusterOf(t, nodes, pods...)
}

// P1, P15.1, P15.3, P15.4: the greatest cluster: how many pods there are in each zone and on each host, by a way of its own.
func TestFullCluster(t *testing.T) {
	c := fullCluster(t)
	inZone := map[string]int{}
	for i := range api.MaxPods {
		if at := i % api.MaxNodes; at%9 > 0 && i%3 == 1 {
			inZone[fmt.Sprint(at%8)]++
		}
	}
	counted := read(t, `count("zone", it["app"] == "1") == 0`)
	for i := range api.MaxNodes {
		v, err := mean.Value(c, counted, api.Pod{}, fmt.Sprintf("n%03d", i), 3)
		if err != nil || v.Known != (i%9 > 0) || v.Known && v.Num != inZone[fmt.Sprint(i%8)] {
			t.Fatalf("node %d: %+v, %v, want %d", i, v, err, inZone[fmt.Sprint(i%8)])
		}
	}
	all, err := mean.Where(c, read(t, `count("host", true) == 4`), api.Pod{})
	if len(all) != 455 || err != nil || !slices.IsSorted(all) {
		t.Errorf("%d nodes, %v", len(all), err)
	}
	none, err := mean.Where(c, read(t, `apart("host", int(it["n"]) < 1000000)`), api.Pod{})
	if len(none) != 57 || err != nil || none[0] != "n000" || none[56] != "n504" {
		t.Errorf("%v, %v", none, err)
	}
	one, err := mean.Where(c, read(t, `near("host", it["n"] == "2000")`), api.Pod{})
	if fmt.Sprint(one) != "[n464]" || err != nil {
		t.Errorf("%v, %v", one, err)
	}
}

// P1: the deepest and the largest trees that layer 14 takes, at the greatest cluster.
func TestGreatTrees(t *testing.T) {
	c := fullCluster(t)
	deepest, within := equal(name(node), text("n001")), equal(name(it), text("p1"))
	for range 16 {
		deepest = or(no, and(or(no, and(deepest, yes)), yes))
	}
	for range 15 {
		within = or(no, and(or(no, and(within, yes)), yes))
	}
	for _, x := range []struct {
		tree  twig
		nodes int
	}{
		{deepest, 1},
		{near("host", within), 1},
		{or(many(999, no)...), 0},
		{and(many(999, yes)...), 512},
		{or(many(249, equal(label(node, "zone"), text("1")))...), 57},
		{or(many(199, near("zone", equal(label(it, "none"), text("1"))))...), 0},
		{and(many(249, apart("zone", in(text("none"), keys(it))))...), 512},
		{and(many(13, notin(integer(label(node, "zone")), set(slices.Repeat([]twig{num(8), num(9)}, 32)...)))...), 512},
		{near("zone", and(many(332, equal(num(1), num(1)))...)), 455},
	} {
		tree := list(x.tree)
		if err := show.Valid(tree); err != nil {
			t.Fatalf("%s: %v", told(tree), err)
		}
		names, err := mean.Where(c, tree, rawPod())
		if len(names) != x.nodes || err != nil {
			t.Errorf("%s: %d nodes, %v, want %d", told(tree), len(names), err, x.nodes)
		}
		holds, err := mean.Holds(c, tree, rawPod(), "n001")
		place, why, err2 := mean.Why(c, tree, rawPod(), "n001")
		if holds != slices.Contains(names, "n001") || why != holds || place < 0 || place >= len(tree.Parts) || err != nil || err2 != nil {
			t.Errorf("%s at n001: %v, %v, %d, %v, %v", told(tree), holds, err, place, why, err2)
		}
	}
}

// P1, P15.4: pods with far more labels and tolerations than a cluster takes, with texts that are none; trees that are far too large.
func TestGreatArguments(t *testing.T) {
	p := api.Pod{Name: strings.Repeat("x", 1<<20)}
	for i := range 100000 {
		p.Labels = append(p.Labels, api.Label{Key: fmt.Sprint("k", i*7%100000, strings.Repeat("/", i%3)), Value: fmt.Sprint(i)})
	}
	p.Tolerations = make([]api.Toleration, 100000)
	c := memoryCluster(t)
	tree := read(t, `node.name in pod.keys || int(pod["k7"]) == 0 || tolerated("NoExecute") || pod["k99999"] != ""`)
	v, err := mean.Value(c, tree, p, "a", 1)
	if !v.Known || len(v.Texts) != 100000 || !slices.IsSorted(v.Texts) || err != nil {
		t.Errorf("%d keys, %v", len(v.Texts), err)
	}
	if names, err := mean.Where(c, tree, p); fmt.Sprint(names) != "[a b c]" || err != nil {
		t.Errorf("%v, %v", names, err)
	}
	if selects, err := mean.Selects(read(t, `it["k0"] == pod["k0"] && it.name == pod.name && "k0" in it.keys`), p, p); !selects || err != nil {
		t.Errorf("%v, %v", selects, err)
	}
	for _, large := range []api.Tree{parts(make([]api.Part, 1<<17)...), parts(part(api.KAnd, make([]int, 1<<20)...)), parts(api.Part{Kind: api.KTolerated, Text: p.Name})} {
		check(t, c, large, p)
		checkSelects(t, large, p, p)
	}
}
