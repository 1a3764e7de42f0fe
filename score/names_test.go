package score_test

import (
	"fmt"
	"slices"
	"strings"
	"testing"

	"berth/api"
	"berth/cluster"
	"berth/index"
	"berth/score"
)

// answers are all that the calls answer of a pod and a list, in words: the points of all nodes too, and of one that isn't there.
func answers(c *cluster.Cluster, x *index.Index, p api.Pod, nodes []string) string {
	name, points, err := score.Best(c, x, p, nodes)
	out := fmt.Sprint(name, points, told(err))
	for _, node := range append(c.Nodes(), "none") {
		points, err := score.Points(c, x, p, node)
		out += fmt.Sprint("; ", node, points, told(err))
	}
	return out
}

// again is a cluster with the same nodes and the same pods on them, which came in another order, and between others that have gone.
func (r chance) again(t *testing.T, c *cluster.Cluster) *cluster.Cluster {
	t.Helper()
	out := cluster.New()
	must := func(_ api.Change, err error) {
		t.Helper()
		if err != nil {
			t.Fatal(err)
		}
	}
	for _, i := range r.Perm(len(c.Nodes())) {
		node, _ := c.Node(c.Nodes()[i])
		must(out.Add(api.Node{Name: fmt.Sprint("gone", i), Labels: tags("zone", "x")}))
		must(out.Add(node))
	}
	for _, i := range r.Perm(len(c.Pods())) {
		pod, on, _ := c.Pod(c.Pods()[i])
		must(out.Bind(api.Pod{Name: fmt.Sprint("gone", i), Labels: tags("app", "web")}, "gone0"))
		must(out.Bind(pod, on))
	}
	for _, name := range out.Pods() {
		if strings.HasPrefix(name, "gone") {
			must(out.Unbind(name))
		}
	}
	for _, name := range out.Nodes() {
		if strings.HasPrefix(name, "gone") {
			must(out.Remove(name))
		}
	}
	return out
}

// P24.3: two clusters with the same nodes and the same pods on them, whose slots are others, answer alike.
func TestNamesNotSlots(t *testing.T) {
	r := newChance(20)
	other := 0
	for range 200 {
		c := r.course(t, one(r, 10, 30, 60))
		if len(c.c.Nodes()) == 0 {
			continue
		}
		again := r.again(t, c.c)
		x := index.Build(again)
		if !slices.Equal(again.Nodes(), c.c.Nodes()) || !slices.Equal(again.Pods(), c.c.Pods()) {
			t.Fatal(again.Nodes(), again.Pods())
		}
		for range 4 {
			p, names := one(r, r.pod("new"), r.pod(c.guest()), r.rawPod()), r.names(c.c)
			if was, is := answers(c.c, c.x, p, names), answers(again, x, p, names); was != is {
				t.Fatalf("%q for %+v:\n%s\nby other slots\n%s", names, p, was, is)
			}
		}
		if !index.Same(c.x, x) {
			other++
		}
	}
	if other < 100 {
		t.Errorf("only %d clusters have other slots", other)
	}
}

// P24.3, P24.2: the order of the list is nothing to its best node, nor is it how often a name stands there.
func TestOrderOfTheList(t *testing.T) {
	r := newChance(21)
	for range 300 {
		c, p := r.course(t, 50), r.pod("new")
		names := some(r, c.c.Nodes()...)
		want, points, err := score.Best(c.c, c.x, p, names)
		for range 5 {
			list := slices.Clone(names)
			for range one(r, 0, 1, 20) {
				if len(list) > 0 {
					list = append(list, one(r, names...))
				}
			}
			r.Shuffle(len(list), func(i, j int) { list[i], list[j] = list[j], list[i] })
			if got, other, fault := score.Best(c.c, c.x, p, list); got != want || other != points || told(fault) != told(err) {
				t.Fatalf("%q for %+v: %s, %+v, %s, want %s, %+v, %s", list, p, got, other, told(fault), want, points, told(err))
			}
		}
	}
}
