package score_test

import (
	"testing"

	"berth/api"
	"berth/cluster"
	"berth/index"
	"berth/score"
)

// chapterCluster is the one of the chapter's examples; its pod stands beside it.
func chapterCluster(t *testing.T) (*cluster.Cluster, *index.Index, api.Pod) {
	t.Helper()
	c, x := clusterOf(t, []api.Node{
		{Name: "a", Labels: tags("zone", "x"), Cap: items(4, -1, 10)},
		{Name: "b", Labels: tags("zone", "y"), Cap: items(4, -1, 10)},
		{Name: "c", Taints: []api.Taint{{Key: "k", Effect: api.PreferNoSchedule}}},
	}, stand{api.Pod{Name: "q", Labels: tags("app", "web"), Needs: items(2)}, "b"})
	p := api.Pod{Name: "p", Labels: tags("app", "web"), Needs: items(1, -1, 5), Prefer: []api.Prefer{wish(30, `node["zone"] == "y"`)}}
	return c, x, p
}

// expectBest holds the best of a list to what is written down here, and to the points of all its nodes.
func expectBest(t *testing.T, c *cluster.Cluster, x *index.Index, p api.Pod, want string, total int, nodes ...string) {
	t.Helper()
	name, points, err := score.Best(c, x, p, nodes)
	if err != nil || name != want || points.Total != total {
		t.Errorf("Best of %q for %+v: %q, %+v, %s, want %q with %d", nodes, p, name, points, told(err), want, total)
	}
	agree(t, c, x, p, nodes)
}

// expectNoBest holds the fault of a list that may not be.
func expectNoBest(t *testing.T, c *cluster.Cluster, x *index.Index, p api.Pod, fault string, nodes ...string) {
	t.Helper()
	name, points, err := score.Best(c, x, p, nodes)
	if told(err) != fault || name != "" || points != (api.Points{}) {
		t.Errorf("Best of %q for %+v: %q, %+v, %s, want %s", nodes, p, name, points, told(err), fault)
	}
}

// P24.1: examples 1 to 3 of the chapter.
func TestExamplesOfPoints(t *testing.T) {
	c, x, p := chapterCluster(t)
	expectPoints(t, c, x, p, "a", 62, 75, 0, 100, 100)
	expectPoints(t, c, x, p, "b", 37, 75, 30, 50, 100)
	expectPoints(t, c, x, p, "c", 0, 100, 0, 0, 90)
	for node, total := range map[string]int{"a": 637, "b": 542, "c": 370} {
		if got, err := score.Points(c, x, p, node); err != nil || got.Total != total {
			t.Errorf("%s: %+v, %s, want %d", node, got, told(err), total)
		}
	}
}

// P24.2: example 4 of the chapter.
func TestExamplesOfBest(t *testing.T) {
	c, x, p := chapterCluster(t)
	expectBest(t, c, x, p, "a", 637, "c", "b", "a")
	expectBest(t, c, x, p, "b", 542, "b", "b")
	expectNoBest(t, c, x, p, "240 at -1")
	expectNoBest(t, c, x, p, "241 at 1 d", "a", "d", "e")
}

// P24.2, P24.3: example 10 of the whole, as far as it speaks of this layer.
func TestExampleOfTheWhole(t *testing.T) {
	c, x := clusterOf(t, []api.Node{{Name: "n2"}, {Name: "n1"}})
	p := api.Pod{Name: "p"}
	expectBest(t, c, x, p, "n1", 600, "n2", "n1")
	if _, err := c.Remove("n1"); err != nil {
		t.Fatal(err)
	}
	for _, name := range []string{"n0", "n1"} {
		if _, err := c.Add(api.Node{Name: name}); err != nil {
			t.Fatal(err)
		}
	}
	expectBest(t, c, index.Build(c), p, "n1", 600, "n2", "n1")
}
