package filter_test

import (
	"fmt"
	"slices"
	"testing"

	"berth/api"
	"berth/cluster"
	"berth/filter"
	"berth/index"
)

// answers are all that the calls answer of a source and a pod over a cluster, in words: the nodes' names too, and one that isn't there.
func answers(c *cluster.Cluster, x *index.Index, source string, p api.Pod) string {
	tree, err := filter.Tree(source, api.OfNode)
	out := fmt.Sprint(tree.Parts, told(err))
	b, err := filter.Compile(source)
	out += fmt.Sprint("; ", b, told(err))
	names, err := filter.Match(c, x, source, p)
	out += fmt.Sprint("; ", names, told(err))
	made, err := filter.Check(p)
	out += fmt.Sprint("; ", made, told(err))
	names, err = filter.Feasible(c, x, p)
	out += fmt.Sprint("; ", names, told(err))
	for _, node := range append(c.Nodes(), "none") {
		why, err := filter.Explain(c, p, node)
		out += fmt.Sprint("; ", node, why, told(err))
	}
	return out
}

// P23.6: two clusters with the same nodes and the same pods on them, whose slots are others, answer alike.
func TestNamesNotSlots(t *testing.T) {
	r := newChance(40)
	other := 0
	for range 150 {
		c := r.course(t, one(r, 10, 30, 60))
		again := r.again(t, c.c)
		x := index.Build(again)
		if !slices.Equal(again.Nodes(), c.c.Nodes()) || !slices.Equal(again.Pods(), c.c.Pods()) {
			t.Fatal(again.Nodes(), again.Pods())
		}
		for range 6 {
			source, p := r.condition(api.OfNode, 3), one(r, r.pod("new"), r.pod(c.guest()), r.rawPod())
			if was, is := answers(c.c, c.x, source, p), answers(again, x, source, p); was != is {
				t.Fatalf("%s for %+v:\n%s\nby other slots\n%s", source, p, was, is)
			}
		}
		if !index.Same(c.x, x) {
			other++
		}
	}
	if other < 75 {
		t.Errorf("only %d clusters have other slots", other)
	}
}

// P23.6: nodes and pods that came in falling order are answered in rising order, and the least names are told.
func TestFallingOrder(t *testing.T) {
	p := api.Pod{Name: "p", Apart: apart("zone", "it.name != pod.name")}
	nodes := []api.Node{{Name: "c", Labels: tags("zone", "y")}, {Name: "b", Labels: tags("zone", "x")}, {Name: "a", Labels: tags("zone", "x")}}
	shy := func(name string) api.Pod { return api.Pod{Name: name, Apart: apart("zone", "true")} }
	c := clusterOf(t, nodes, stand{shy("q3"), "a"}, stand{shy("q2"), "b"}, stand{shy("q1"), "b"})
	expectMatch(t, c, "true", p, "a b c")
	near, shunned := because(api.IsNear, 0, "q1"), because(api.IsShunned, 0, "q1")
	expectReasons(t, c, p, "c", near, near, api.Reason{})
	expectReasons(t, c, api.Pod{Name: "p"}, "c", shunned, shunned, api.Reason{})
	if _, err := c.Unbind("q1"); err != nil {
		t.Fatal(err)
	}
	near.Name, shunned.Name = "q2", "q2"
	expectReasons(t, c, p, "c", near, near, api.Reason{})
	expectReasons(t, c, api.Pod{Name: "p"}, "c", shunned, shunned, api.Reason{})
}
