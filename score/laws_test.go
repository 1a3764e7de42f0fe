package score_test

import (
	"fmt"
	"testing"

	"berth/api"
	"berth/cluster"
	"berth/labels"
)

// P24.4: the ranges of the parts and of Total.
func TestRanges(t *testing.T) {
	r := newChance(10)
	within := func(n, most int) bool { return n >= 0 && n <= most }
	for range 400 {
		c := r.course(t, one(r, 10, 40, 80))
		p := r.pod("new")
		for _, node := range c.c.Nodes() {
			v := mustPoints(t, c.c, c.x, p, node)
			if !within(v.Least, 100) || !within(v.Balance, 100) || !within(v.Spread, 100) || !within(v.Taint, 100) || !within(v.Prefer, 800) || !within(v.Total, 1500) {
				t.Fatalf("%s for %+v: %+v", node, p, v)
			}
			if v.Total != v.Least+v.Balance+v.Prefer+2*v.Spread+3*v.Taint {
				t.Fatalf("%s for %+v: %+v", node, p, v)
			}
		}
	}
}

// P24.4: both ends of the range of Total are reached.
func TestEndsOfTheRange(t *testing.T) {
	c, x := clusterOf(t, []api.Node{{Name: "a", Labels: tags("zone", "x"), Cap: items(4, 4)}, {Name: "b", Cap: items(1, 1), Taints: soft(10)}}, stand{api.Pod{Name: "q", Needs: items(1)}, "b"})
	all := wish(100, `node.name == "a"`)
	p := api.Pod{Name: "p", Labels: tags("app", "web"), Prefer: []api.Prefer{all, all, all, all, all, all, all, all}}
	expectBest(t, c, x, p, "a", 1500, "b", "a")
	expectPoints(t, c, x, p, "b", 50, 0, 0, 0, 0)
	p.Needs = items(0, 1)
	expectPoints(t, c, x, p, "b", 0, 100, 0, 0, 0)
}

// P24.4: a further bound pod with the pod's value makes no Spread greater, and it makes none less but in its own domain; one with another value changes none.
func TestSpreadNeverGrows(t *testing.T) {
	r := newChance(11)
	less := 0
	for range 800 {
		c := r.course(t, 40)
		p := r.pod("new")
		kind, has := labels.Get(p.Labels, "app")
		before := map[string]int{}
		for _, node := range c.c.Nodes() {
			before[node] = mustPoints(t, c.c, c.x, p, node).Spread
		}
		further := api.Pod{Name: "further", Labels: r.labels()}
		value, alike := labels.Get(further.Labels, "app")
		on := c.node()
		change, err := c.c.Bind(further, on)
		c.hear(t, change, err)
		home, _ := c.c.Node(on)
		zone, in := labels.Get(home.Labels, "zone")
		for _, node := range c.c.Nodes() {
			v := mustPoints(t, c.c, c.x, p, node)
			n, _ := c.c.Node(node)
			other, is := labels.Get(n.Labels, "zone")
			counts := err == nil && has && alike && kind == value && in && is && zone == other
			if v.Spread > before[node] || !counts && v.Spread != before[node] || counts && v.Spread == before[node] {
				t.Fatalf("%s for %+v, with a further %+v on %s: %d, then %d", node, p, further, on, before[node], v.Spread)
			}
			if counts {
				less++
			}
		}
	}
	if less < 30 {
		t.Errorf("only %d spreads are less", less)
	}
}

// P24.4: on a node on which nothing is used, for a pod that needs nothing, Least and Balance are 100, where Cap has a resource.
func TestNothingUsed(t *testing.T) {
	r := newChance(12)
	for i := range 300 {
		c := cluster.New()
		node := api.Node{Name: "a", Labels: r.labels(), Taints: r.taints(), Cap: r.items(1 + i)}
		if _, err := c.Add(node); err != nil {
			t.Fatal(err)
		}
		if _, err := c.Add(api.Node{Name: "b", Cap: items(9)}); err != nil {
			t.Fatal(err)
		}
		for k := range 3 {
			for _, s := range []stand{{api.Pod{Name: fmt.Sprint("q", k), Labels: r.labels()}, "a"}, {api.Pod{Name: fmt.Sprint("r", k), Needs: items(1)}, "b"}} {
				if _, err := c.Bind(s.pod, s.node); err != nil {
					t.Fatal(err)
				}
			}
		}
		p := r.pod("new")
		p.Needs = one(r, nil, items(0, 0))
		made, _ := c.Node("a")
		want := 100
		if len(made.Cap) == 0 {
			want = 0
		}
		if v := mustPoints(t, c, nil, p, "a"); v.Least != want || v.Balance != 100 {
			t.Fatalf("%+v for %+v: %+v", made, p, v)
		}
	}
}
