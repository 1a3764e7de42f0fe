package score_test

import (
	"fmt"
	"slices"
	"testing"

	"berth/api"
	"berth/cluster"
	"berth/index"
	"berth/score"
)

// P24.2: of several nodes with as many points the least name byte by byte, in whatever order they came and stand in the list.
func TestBestOfEven(t *testing.T) {
	names := []string{"n2", "n10", "n1", "n", "n1-a", "0"}
	var nodes []api.Node
	for _, name := range names {
		nodes = append(nodes, api.Node{Name: name})
	}
	r := newChance(2)
	c, x := clusterOf(t, nodes)
	for range 100 {
		asked := some(r, names...)
		if len(asked) > 0 {
			expectBest(t, c, x, api.Pod{Name: "p"}, slices.Min(asked), 600, asked...)
		}
	}
	expectBest(t, c, x, api.Pod{Name: "p"}, "n1", 600, "n2", "n10", "n1")
	expectBest(t, c, x, api.Pod{Name: "p"}, "n10", 600, "n2", "n10")
}

// P24.2: the greatest Total takes the pod, wherever it stands; each part alone decides.
func TestBestByEachPart(t *testing.T) {
	zone := func(name, value string) api.Node {
		return api.Node{Name: name, Labels: tags("zone", value), Cap: items(10, 10)}
	}
	nodes := []api.Node{zone("a", "x"), zone("b", "y"), zone("c", "z")}
	last := func(change func(n *api.Node), p api.Pod, total int, pods ...stand) {
		t.Helper()
		list := slices.Clone(nodes)
		for i := range list[:2] {
			change(&list[i])
		}
		c, x := clusterOf(t, list, pods...)
		for _, asked := range [][]string{{"a", "b", "c"}, {"c", "b", "a"}, {"b", "c", "a", "c"}} {
			expectBest(t, c, x, p, "c", total, asked...)
		}
		expectBest(t, c, x, p, "a", mustPoints(t, c, x, p, "a").Total, "b", "a")
	}
	same := func(*api.Node) {}
	web := api.Pod{Name: "p", Labels: tags("app", "web")}
	last(same, api.Pod{Name: "p"}, 700, stand{api.Pod{Name: "q", Needs: items(1, 1)}, "a"}, stand{api.Pod{Name: "r", Needs: items(1, 1)}, "b"})
	last(func(n *api.Node) { n.Cap = items(30, 10) }, api.Pod{Name: "p", Needs: items(5, 5)}, 650)
	last(same, api.Pod{Name: "p", Prefer: []api.Prefer{wish(1, `node["zone"] == "z"`)}}, 701)
	last(same, web, 700, stand{web, "a"}, stand{api.Pod{Name: "q", Labels: web.Labels}, "b"})
	last(func(n *api.Node) { n.Taints = soft(1) }, api.Pod{Name: "p"}, 700)
}

// mustPoints are the points of a node that has some.
func mustPoints(t *testing.T, c *cluster.Cluster, x *index.Index, p api.Pod, node string) api.Points {
	t.Helper()
	points, err := score.Points(c, x, p, node)
	if err != nil {
		t.Fatal(told(err))
	}
	return points
}

// P24.2: a node that isn't in the list is not answered, though it has more points; one name is answered.
func TestBestOfTheListAlone(t *testing.T) {
	c, x, p := chapterCluster(t)
	expectBest(t, c, x, p, "c", 370, "c")
	expectBest(t, c, x, p, "c", 370, "c", "c", "c")
	expectBest(t, c, x, p, "b", 542, "c", "b", "c", "b")
	expectBest(t, c, x, p, "a", 637, "a", "b", "a", "c")
}

// P24.1, P24.2: clusters of many kinds, with an index that was kept; any pods and lists, refused ones too.
func TestAgainstTheModel(t *testing.T) {
	r := newChance(3)
	asked, answered := 0, 0
	for range 400 {
		c := r.course(t, one(r, 5, 20, 40, 80))
		for range 8 {
			p, names := one(r, r.pod("new"), r.pod(c.guest()), r.pod("new"), r.rawPod()), r.names(c.c)
			agree(t, c.c, c.x, p, names)
			agree(t, c.c, c.x, p, c.c.Nodes())
			asked++
			if len(faultsOfBest(c.c, p, names)) == 0 {
				answered++
			}
		}
	}
	if answered < asked/4 || asked-answered < asked/4 {
		t.Errorf("%d of %d are answered", answered, asked)
	}
}

// P24.1, P24.2, P24.3: the greatest cluster there may be, all of it in the list, twice.
func TestBestOfTheGreatestCluster(t *testing.T) {
	var nodes []api.Node
	var names []string
	for i := range api.MaxNodes {
		n := api.Node{Name: fmt.Sprint("n", i), Labels: tags("zone", fmt.Sprint("z", i%7)), Cap: items(100+i%5, 7+i%3), Taints: soft(i % 4)}
		nodes, names = append(nodes, n), append(names, n.Name)
	}
	var pods []stand
	for i := range api.MaxPods {
		p := api.Pod{Name: fmt.Sprint("p", i), Labels: tags("app", []string{"web", "db", "x"}[i%3]), Needs: items(i%9, i%2)}
		pods = append(pods, stand{p, names[i*5%api.MaxNodes]})
	}
	c, x := clusterOf(t, nodes, pods...)
	p := api.Pod{Name: "p", Labels: tags("app", "web"), Needs: items(1, 1)}
	for i := range api.MaxPrefer {
		p.Prefer = append(p.Prefer, wish(10+i, fmt.Sprintf(`count("zone", it["app"] == "db") > %d && node["zone"] != "z%d"`, 90+i, i)))
	}
	all := slices.Concat(names, names)
	name, best, err := score.Best(c, x, p, all)
	if err != nil {
		t.Fatal(told(err))
	}
	if best != mustPoints(t, c, x, p, name) || best != pointsOf(t, c, p, name) {
		t.Errorf("%s, %+v, want %+v", name, best, pointsOf(t, c, p, name))
	}
	for i := 0; i < api.MaxNodes; i += 9 {
		points := mustPoints(t, c, x, p, names[i])
		if points.Total > best.Total || points.Total == best.Total && names[i] < name {
			t.Errorf("%s, %+v; %s has %+v", name, best, names[i], points)
		}
	}
	for range 5 {
		if again, points, err := score.Best(c, x, p, names); again != name || points != best || err != nil {
			t.Errorf("%s, %+v, %s, want %s, %+v", again, points, told(err), name, best)
		}
	}
}
