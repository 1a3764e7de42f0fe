package score_test

import (
	"fmt"
	"testing"

	"berth/api"
	"berth/score"
)

// expectShares holds Least and Balance of a node with this capacity, of which so much is used, for a pod with these needs.
func expectShares(t *testing.T, amounts, used, needs []api.Item, least, balance int) {
	t.Helper()
	c, x := clusterOf(t, []api.Node{{Name: "a", Cap: amounts}, {Name: "b", Cap: items(1, 1, 1)}}, stand{api.Pod{Name: "q", Needs: used}, "a"})
	expectPoints(t, c, x, api.Pod{Name: "p", Needs: needs}, "a", least, balance, 0, 100, 100)
}

// P24.1: Least and Balance, of no, one and several resources, with roundings and with needs above what is there.
func TestShares(t *testing.T) {
	const most = api.MaxAmount
	expectShares(t, nil, nil, nil, 0, 100)
	expectShares(t, nil, nil, items(3, 1), 0, 100)
	expectShares(t, items(0, 0), nil, items(3), 0, 100) // Cap keeps no amount of 0
	expectShares(t, items(4, 0), nil, items(1), 75, 100)
	expectShares(t, items(4), nil, nil, 100, 100)
	expectShares(t, items(4), nil, items(0), 100, 100)
	expectShares(t, items(4), items(1), nil, 75, 100)
	expectShares(t, items(4), items(1), items(1), 50, 100)
	expectShares(t, items(4), items(1), items(3), 0, 100)
	expectShares(t, items(4), items(1), items(4), 0, 100)
	expectShares(t, items(4), items(4), items(most), 0, 100)
	expectShares(t, items(3), nil, items(1), 66, 100)
	expectShares(t, items(3), nil, items(2), 33, 100)
	expectShares(t, items(1000), nil, items(1), 99, 100)
	expectShares(t, items(1000), nil, items(991), 0, 100)
	expectShares(t, items(1000), nil, items(990), 1, 100)

	expectShares(t, items(4, 4), nil, nil, 100, 100)
	expectShares(t, items(4, 4), items(4), nil, 50, 0)
	expectShares(t, items(4, 4), nil, items(5), 50, 0)
	expectShares(t, items(4, 4), items(2), items(-1, 2), 50, 100)
	expectShares(t, items(4, 10), items(2), items(1, 5), 37, 75)
	expectShares(t, items(4, 10), nil, items(1, 5, 7), 62, 75)
	expectShares(t, items(3, 3, 3), items(1, 2), items(0, 0, 2), 44, 67)
	expectShares(t, items(3, 3, 3), nil, items(3, 1), 55, 0)
	expectShares(t, items(100, 100, 100), items(1), items(-1, 1, 2), 98, 99)
	expectShares(t, items(-1, 7), nil, items(1, -1, 1), 100, 100)

	expectShares(t, items(most), nil, nil, 100, 100)
	expectShares(t, items(most), nil, items(1), 99, 100)
	expectShares(t, items(most), items(most-1), nil, 0, 100)
	expectShares(t, items(most), items(most/2-1), items(1), 50, 100)
	expectShares(t, items(most), items(most/2), items(1), 49, 100)
	expectShares(t, items(most, 1), items(most), items(most, most), 0, 100)
	expectShares(t, items(1, most), nil, items(most, 1), 49, 1)
}

// P24.1: sixteen resources, of which each has another share.
func TestManyShares(t *testing.T) {
	var amounts, needs []api.Item
	for i := range api.MaxItems {
		name := fmt.Sprintf("r%02d", i)
		amounts = append(amounts, api.Item{Name: name, N: 200})
		needs = append(needs, api.Item{Name: name, N: 2*i + i%2})
	}
	// shares 100, 98, 98, 96, 96, 94, 94, ..: 100 + 98 + 98 + .. + 86 + 86 + 84
	expectShares(t, amounts, nil, needs, 92, 84)
	needs[7].N = 200
	expectShares(t, amounts, nil, needs, 86, 0)
}

// P24.1: what is used is what all the node's pods need together, and not what those on other nodes need.
func TestSharesOfManyPods(t *testing.T) {
	var pods []stand
	for i := range 30 {
		node := []string{"a", "b", "b"}[i%3]
		pods = append(pods, stand{api.Pod{Name: fmt.Sprint("q", i), Needs: items(1, -1, 2)}, node})
	}
	c, x := clusterOf(t, []api.Node{{Name: "a", Cap: items(40, -1, 100)}, {Name: "b", Cap: items(40, -1, 100)}}, pods...)
	p := api.Pod{Name: "p", Needs: items(2)}
	expectPoints(t, c, x, p, "a", (70+80)/2, 90, 0, 100, 100)
	expectPoints(t, c, x, p, "b", (45+60)/2, 85, 0, 100, 100)
	// the pod to be placed counts only if it is bound, whatever its name is (L3)
	p.Name = "q0"
	expectPoints(t, c, x, p, "a", (70+80)/2, 90, 0, 100, 100)
}

// P24.1: Prefer is the sum of the weights of what holds at the node.
func TestPrefer(t *testing.T) {
	c, x := clusterOf(t, []api.Node{
		{Name: "a", Labels: tags("zone", "x", "gen", "7"), Cap: items(4), Taints: []api.Taint{{Key: "t", Effect: api.NoSchedule}}},
		{Name: "b", Labels: tags("zone", "x")},
		{Name: "d"},
	}, stand{api.Pod{Name: "q", Labels: tags("app", "db"), Needs: items(1)}, "a"})
	prefers := func(a, b, d int, terms ...api.Prefer) {
		t.Helper()
		p := api.Pod{Name: "p", Labels: tags("site", "x"), Prefer: terms}
		for node, want := range map[string]int{"a": a, "b": b, "d": d} {
			points, err := score.Points(c, x, p, node)
			if err != nil || points.Prefer != want || points.Total-want != points.Least+points.Balance+2*points.Spread+3*points.Taint {
				t.Errorf("%s for %+v: %+v, %s, want %d", node, terms, points, told(err), want)
			}
		}
		agree(t, c, x, p, []string{"d", "a", "b"})
	}
	prefers(0, 0, 0)
	prefers(1, 1, 1, wish(1, "true"))
	prefers(0, 0, 0, wish(100, "false"))
	prefers(100, 0, 0, wish(100, `node.name == "a"`))
	prefers(30, 30, 0, wish(30, `node["zone"] == pod["site"]`))
	prefers(0, 0, 7, wish(7, `!(node["zone"] == "x")`))
	prefers(5, 0, 0, wish(5, `int(node["gen"]) < 8`))
	prefers(0, 9, 9, wish(9, `tolerated("NoSchedule")`))
	prefers(8, 8, 0, wish(8, `near("zone", it["app"] == "db")`))
	prefers(0, 0, 8, wish(8, `apart("zone", it["app"] == "db")`))
	prefers(6, 6, 0, wish(6, `count("zone", it.name != pod.name) == 1`))
	prefers(4, 0, 0, wish(4, `node.cap("cpu") >= 4`))
	prefers(36, 35, 16, wish(1, `node.name == "a"`), wish(20, `node["zone"] in {"x"}`), wish(15, "true"), wish(1, `node["zone"] notin {"x", "y"}`))
	prefers(3, 3, 3, wish(1, "true"), wish(1, "true"), wish(1, "true")) // each term counts
	all := wish(100, "true")
	prefers(800, 800, 800, all, all, all, all, all, all, all, all)
	prefers(701, 701, 601, all, all, all, all, all, wish(100, `node["zone"] == "x"`), all, wish(1, "true"))
}

// P24.1: Spread, of pods and nodes with and without the label that it looks for, and of the pods that count.
func TestSpread(t *testing.T) {
	web := func(name string) api.Pod { return api.Pod{Name: name, Labels: tags("app", "web", "tier", "1")} }
	nodes := []api.Node{
		{Name: "a", Labels: tags("zone", "x")}, {Name: "b", Labels: tags("zone", "x", "rack", "1")},
		{Name: "c", Labels: tags("zone", "y", "app", "web")}, {Name: "d", Labels: tags("rack", "1")}, {Name: "e", Labels: tags("zone", "")},
		{Name: "f", Labels: tags("zone", "z")},
	}
	c, x := clusterOf(t, nodes,
		stand{web("q1"), "a"}, stand{web("q2"), "b"}, stand{web("q3"), "c"}, stand{web("q4"), "d"}, stand{web("q5"), "d"}, stand{web("q6"), "e"},
		stand{api.Pod{Name: "r1", Labels: tags("app", "db")}, "a"}, stand{api.Pod{Name: "r2", Labels: tags("tier", "web")}, "f"},
		stand{api.Pod{Name: "r3", Labels: tags("app", "")}, "b"}, stand{api.Pod{Name: "r4"}, "f"}, stand{api.Pod{Name: "r5", Labels: tags("app", "")}, "f"},
	)
	spreads := func(p api.Pod, want ...int) {
		t.Helper()
		for i, n := range nodes {
			expectPoints(t, c, x, p, n.Name, 0, 100, 0, want[i], 100)
		}
	}
	spreads(api.Pod{Name: "p"}, 100, 100, 100, 100, 100, 100)
	spreads(api.Pod{Name: "p", Labels: tags("tier", "web", "zone", "x")}, 100, 100, 100, 100, 100, 100)
	spreads(web("p"), 33, 33, 50, 0, 50, 100)
	spreads(web("q1"), 33, 33, 50, 0, 50, 100) // a bound pod's name changes nothing (L3)
	spreads(api.Pod{Name: "p", Labels: tags("app", "db")}, 50, 50, 100, 0, 100, 100)
	spreads(api.Pod{Name: "p", Labels: tags("app", "")}, 50, 50, 100, 0, 100, 50)
	spreads(api.Pod{Name: "p", Labels: tags("app", "none")}, 100, 100, 100, 0, 100, 100)
}

// P24.1: Spread of no bound pod in the domain, and of many.
func TestSpreadOfMany(t *testing.T) {
	c, x := clusterOf(t, []api.Node{{Name: "a", Labels: tags("zone", "x")}, {Name: "b", Labels: tags("zone", "x")}, {Name: "c", Labels: tags("zone", "y")}})
	p := api.Pod{Name: "p", Labels: tags("app", "web")}
	known := map[int]int{0: 100, 1: 50, 2: 33, 3: 25, 4: 20, 5: 16, 8: 11, 9: 10, 32: 3, 33: 2, 49: 2, 50: 1, 98: 1, 99: 1, 100: 0, 101: 0, 120: 0}
	course := course{newChance(1), c, x}
	for k := range 121 {
		if want, is := known[k]; is {
			expectPoints(t, c, x, p, "b", 0, 100, 0, want, 100)
			expectPoints(t, c, x, p, "a", 0, 100, 0, want, 100)
			expectPoints(t, c, x, p, "c", 0, 100, 0, 100, 100)
		}
		change, err := c.Bind(api.Pod{Name: fmt.Sprint("q", k), Labels: tags("app", "web")}, []string{"a", "b"}[k%2])
		course.hear(t, change, err)
	}
}

// P24.1: Taint, of as many taints as may be, tolerated in several ways or not; the other effects cost nothing.
func TestTaint(t *testing.T) {
	nodes := []api.Node{{Name: "hard", Taints: []api.Taint{{Key: "t0", Effect: api.NoSchedule}, {Key: "t0", Effect: api.NoExecute}}}}
	for n := range api.MaxTaints + 1 {
		nodes = append(nodes, api.Node{Name: fmt.Sprint("n", n), Taints: soft(n)})
	}
	c, x := clusterOf(t, nodes)
	taints := func(want func(n int) int, tolerations ...api.Toleration) {
		t.Helper()
		p := api.Pod{Name: "p", Tolerations: tolerations}
		expectPoints(t, c, x, p, "hard", 0, 100, 0, 100, 100)
		for n := range api.MaxTaints + 1 {
			expectPoints(t, c, x, p, fmt.Sprint("n", n), 0, 100, 0, 100, want(n))
		}
	}
	less := func(n int) int { return max(100-10*n, 0) }
	taints(less)
	taints(func(int) int { return 100 }, api.Toleration{Op: api.Exists})
	taints(func(int) int { return 100 }, api.Toleration{Op: api.Exists, Effect: api.PreferNoSchedule})
	taints(less, api.Toleration{Op: api.Exists, Effect: api.NoSchedule}, api.Toleration{Op: api.Exists, Effect: api.NoExecute})
	taints(less, api.Toleration{Key: "t3", Op: api.Equal, Value: "v"})
	taints(func(n int) int {
		if n > 3 {
			return less(n - 1)
		}
		return less(n)
	}, api.Toleration{Key: "t3", Op: api.Equal})
	taints(func(n int) int { return less(max(n-2, 0)) }, api.Toleration{Key: "t0", Op: api.Exists}, api.Toleration{Key: "t1", Op: api.Exists, Effect: api.PreferNoSchedule})
}

// P24.1: all parts together: each counts in Total as often as the chapter says.
func TestTotal(t *testing.T) {
	nodes := []api.Node{{Name: "a", Labels: tags("zone", "x"), Cap: items(10, 10), Taints: soft(3), Cordoned: true}}
	c, x := clusterOf(t, nodes, stand{api.Pod{Name: "q", Labels: tags("app", "web"), Needs: items(4, 1)}, "a"})
	p := api.Pod{Name: "p", Labels: tags("app", "web"), Needs: items(1, 1), Prefer: []api.Prefer{wish(11, "true"), wish(50, "false"), wish(2, `node["zone"] == "x"`)}}
	expectPoints(t, c, x, p, "a", 65, 70, 13, 50, 70)
	if got, err := score.Points(c, x, p, "a"); err != nil || got.Total != 65+70+13+100+210 {
		t.Errorf("%+v, %s", got, told(err))
	}
}

// P24.1: points are told of every node: also of one that may not take the pod.
func TestPointsWhereThePodMayNotStand(t *testing.T) {
	nodes := []api.Node{{Name: "a", Cordoned: true, Cap: items(1), Labels: tags("zone", "x"), Taints: []api.Taint{{Key: "t", Effect: api.NoExecute}}}}
	shy := api.Pod{Name: "q", Apart: []api.Apart{{Topo: "zone", Select: "true"}}}
	c, x := clusterOf(t, nodes, stand{shy, "a"})
	p := api.Pod{Name: "p", Needs: items(2), Require: "false", Apart: shy.Apart}
	expectPoints(t, c, x, p, "a", 0, 100, 0, 100, 100)
	expectBest(t, c, x, p, "a", 600, "a")
}
