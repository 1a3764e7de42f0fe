package mean_test

import (
	"fmt"
	"slices"
	"testing"

	"berth/api"
	"berth/cluster"
	"berth/mean"
)

func where(t *testing.T, c *cluster.Cluster, w twig, p api.Pod) []string {
	t.Helper()
	names, err := mean.Where(c, list(w), p)
	if err != nil {
		t.Fatalf("%s: %v", told(list(w)), err)
	}
	return names
}

// others are the nodes of a cluster that are not among the names.
func others(c *cluster.Cluster, names []string) []string {
	return slices.DeleteFunc(c.Nodes(), func(n string) bool { return slices.Contains(names, n) })
}

func negated(kids []twig) []twig {
	var out []twig
	for _, kid := range kids {
		out = append(out, not(kid))
	}
	return out
}

// P15.6: at every node, for every pod: the negation of a tree holds just if the tree doesn't; that of a conjunction just if the disjunction of the negations does, and the other way about.
func TestNegations(t *testing.T) {
	c := newChance(1000, 0)
	for range 1500 {
		cl, p := c.cluster(t, 8, 10), c.rawPod()
		kids := make([]twig, 2+c.IntN(3))
		for i := range kids {
			kids[i] = c.taken(api.OfNode, 3)
			holds := where(t, cl, kids[i], p)
			if !slices.Equal(where(t, cl, not(kids[i]), p), others(cl, holds)) || !slices.Equal(where(t, cl, not(not(kids[i])), p), holds) {
				t.Fatalf("the negation of %s", told(list(kids[i])))
			}
		}
		if !slices.Equal(where(t, cl, not(and(kids...)), p), where(t, cl, or(negated(kids)...), p)) {
			t.Fatalf("the negation of %s", told(list(and(kids...))))
		}
		if !slices.Equal(where(t, cl, not(or(kids...)), p), where(t, cl, and(negated(kids)...), p)) {
			t.Fatalf("the negation of %s", told(list(or(kids...))))
		}
	}
}

// P15.6, L1, L2: apart is the negation of near, != of ==, notin of in; near holds where count is above 0.
func TestNegationsOfParts(t *testing.T) {
	c := newChance(1100, 0)
	for range 1000 {
		cl, p := c.cluster(t, 8, 10), c.rawPod()
		key, selector := c.key(), c.taken(api.OfIt, 3)
		nears := where(t, cl, near(key, selector), p)
		if !slices.Equal(where(t, cl, apart(key, selector), p), others(cl, nears)) || !slices.Equal(where(t, cl, asked(count(key, selector)), p), nears) {
			t.Fatalf("near(%q, %s)", key, told(list(selector)))
		}
		for _, kind := range []api.Kind{api.KCmp, api.KIn} {
			w := c.taken(api.OfNode, 1)
			for w.part.Kind != kind {
				w = c.taken(api.OfNode, 1)
			}
			positive, negative := w, w
			positive.part.Num, negative.part.Num = 0, 1
			if kind == api.KCmp {
				positive.part.Num, negative.part.Num = int(api.CmpEq), int(api.CmpNe)
			}
			if !slices.Equal(where(t, cl, negative, p), others(cl, where(t, cl, positive, p))) {
				t.Fatalf("the negation of %s", told(list(positive)))
			}
		}
	}
}

// answers are all that the calls tell of a tree at a node, as a text.
func answers(c *cluster.Cluster, tree api.Tree, p api.Pod, named string) string {
	holds, err := mean.Holds(c, tree, p, named)
	place, why, err2 := mean.Why(c, tree, p, named)
	out := fmt.Sprint(holds, err, place, why, err2)
	for at := range tree.Parts {
		v, err := mean.Value(c, tree, p, named, at)
		out += fmt.Sprintf("; %+v %v", v, err)
	}
	return out
}

// again is the same cluster by names, made by a longer way: nodes and pods come in another order, and others came and went between them.
func (c chance) again(t *testing.T, from *cluster.Cluster) *cluster.Cluster {
	t.Helper()
	to := cluster.New()
	must := func(_ api.Change, err error) {
		t.Helper()
		if err != nil {
			t.Fatal(err)
		}
	}
	nodes, pods := from.Nodes(), from.Pods()
	c.Shuffle(len(nodes), func(i, j int) { nodes[i], nodes[j] = nodes[j], nodes[i] })
	c.Shuffle(len(pods), func(i, j int) { pods[i], pods[j] = pods[j], pods[i] })
	for i, named := range nodes {
		must(to.Add(api.Node{Name: fmt.Sprint("gone", i)}))
		n, _ := from.Node(named)
		must(to.Add(n))
	}
	for i, named := range pods {
		must(to.Bind(api.Pod{Name: fmt.Sprint("gone", i), Labels: c.labels()}, nodes[0]))
		p, on, _ := from.Pod(named)
		must(to.Bind(p, on))
	}
	for i := range pods {
		must(to.Unbind(fmt.Sprint("gone", i)))
	}
	for i := range nodes {
		must(to.Remove(fmt.Sprint("gone", i)))
	}
	return to
}

// P15.6: no answer hangs on a slot, nor on the order in which nodes and pods came.
func TestNeverOnASlot(t *testing.T) {
	c := newChance(1200, 0)
	moved := 0
	for range 600 {
		first, p := c.cluster(t, 8, 10), c.rawPod()
		second := c.again(t, first)
		tree := list(c.taken(api.OfNode, 4))
		a, err := mean.Where(first, tree, p)
		b, err2 := mean.Where(second, tree, p)
		if !slices.Equal(a, b) || err != nil || err2 != nil {
			t.Fatalf("%s: %v, %v", told(tree), a, b)
		}
		for _, named := range first.Nodes() {
			slot, _ := first.Slot(named)
			if other, _ := second.Slot(named); other != slot {
				moved++
			}
			if a, b := answers(first, tree, p, named), answers(second, tree, p, named); a != b {
				t.Fatalf("%s at %s:\n%s\n%s", told(tree), named, a, b)
			}
		}
	}
	if moved < 600 {
		t.Errorf("only %d nodes had another slot", moved)
	}
}

// P15.6: no answer at a node hangs on another node that has no bound pod: such nodes come, go and change.
func TestNeverOnAnEmptyNode(t *testing.T) {
	c := newChance(1300, 0)
	for range 400 {
		cl, p := c.cluster(t, 6, 8), c.rawPod()
		tree := list(c.taken(api.OfNode, 4))
		names := cl.Nodes()
		var told []string
		for _, named := range names {
			told = append(told, answers(cl, tree, p, named))
		}
		for i := range 6 {
			other := c.node(fmt.Sprint("new", i))
			if _, err := cl.Add(other); err != nil {
				t.Fatal(err)
			}
			cl.Label(fmt.Sprint("new", c.IntN(6)), one(c, someKeys...), one(c, someValues...))
			cl.Remove(fmt.Sprint("new", c.IntN(6)))
			for j, named := range names {
				if now := answers(cl, tree, p, named); now != told[j] {
					t.Fatalf("at %s:\n%s\n%s", named, told[j], now)
				}
			}
		}
	}
}

// P15.6: without near, apart and count no answer hangs on the bound pods, nor on any other node.
func TestOnTheNodeAlone(t *testing.T) {
	c := newChance(1400, 0)
	tried := 0
	for tried < 400 {
		tree := list(c.taken(api.OfNode, 4))
		if len(inSelectorPlaces(tree)) > 0 {
			continue
		}
		tried++
		cl, p := c.cluster(t, 6, 8), c.rawPod()
		for _, named := range cl.Nodes() {
			n, _ := cl.Node(named)
			alone := clusterOf(t, []api.Node{n})
			if a, b := answers(cl, tree, p, named), answers(alone, tree, p, named); a != b {
				t.Fatalf("%s at %s:\n%s\n%s", told(tree), named, a, b)
			}
		}
	}
}

func inSelectorPlaces(tree api.Tree) []int {
	var out []int
	for at, hidden := range inSelector(tree) {
		if hidden {
			out = append(out, at)
		}
	}
	return out
}

// P15.6: of a node its name, labels, taints and capacity count, of a bound pod its name and labels and where it stands, of the pod to be placed its name, labels and tolerations, and nothing else of any of them.
func TestOnNothingElse(t *testing.T) {
	c := newChance(1500, 0)
	for range 300 {
		cl, p := c.cluster(t, 6, 8), c.rawPod()
		tree := list(c.taken(api.OfNode, 4))
		other := cluster.New()
		for _, named := range cl.Nodes() {
			n, _ := cl.Node(named)
			n.Cordoned = !n.Cordoned
			if _, err := other.Add(n); err != nil {
				t.Fatal(err)
			}
		}
		for i, named := range cl.Pods() {
			bound, on, _ := cl.Pod(named)
			bound.Tolerations, bound.Require, bound.Priority = c.tolerations(), `node.name == "x"`, i
			bound.Apart, bound.Prefer = []api.Apart{{Topo: "zone", Select: "true"}}, []api.Prefer{{Weight: 1, Text: "true"}}
			if room, _ := other.Room(on); len(room) > 0 {
				bound.Needs = room
			}
			if _, err := other.Bind(bound, on); err != nil {
				t.Fatal(err)
			}
		}
		q := p
		q.Needs, q.Require, q.Priority = []api.Item{{Name: "cpu", N: -4}}, "false", 7
		q.Apart, q.Prefer = []api.Apart{{Topo: "zone", Select: "true"}}, []api.Prefer{{Weight: 1000, Text: "("}}
		for _, named := range cl.Nodes() {
			if a, b := answers(cl, tree, p, named), answers(other, tree, q, named); a != b {
				t.Fatalf("%s at %s:\n%s\n%s", told(tree), named, a, b)
			}
		}
	}
}
