package filter_test

import (
	"fmt"
	"strings"
	"testing"

	"berth/api"
	"berth/cluster"
	"berth/filter"
	"berth/index"
)

// chapterCluster is the one of the chapter's examples.
func chapterCluster(t *testing.T) *cluster.Cluster {
	t.Helper()
	return clusterOf(t, []api.Node{
		{Name: "a", Labels: tags("zone", "x"), Cap: cpu(4), Taints: []api.Taint{{Key: "k", Value: "v", Effect: api.NoSchedule}}},
		{Name: "b", Labels: tags("zone", "x"), Cap: cpu(2)},
		{Name: "c", Labels: tags("zone", "y"), Cap: cpu(2), Cordoned: true},
		{Name: "d", Cap: cpu(2)},
	}, stand{api.Pod{Name: "q", Labels: tags("app", "web"), Needs: cpu(1), Apart: apart("zone", `it["app"] == "db"`)}, "b"})
}

// expectTree holds the fault of a source that is written down here; "none" is a tree.
func expectTree(t *testing.T, source string, scope api.Side, fault string) {
	t.Helper()
	tree, err := filter.Tree(source, scope)
	if want, _ := read(source, scope); told(err) != fault || !sameTree(tree, want) {
		t.Errorf("Tree(%q, %d): %v, %s, want %v, %s", short(source), scope, tree, told(err), want, fault)
	}
}

// expectMatch holds the nodes at which a constraint holds, by their names.
func expectMatch(t *testing.T, c *cluster.Cluster, source string, pod api.Pod, want string) {
	t.Helper()
	if got, err := filter.Match(c, index.Build(c), source, pod); err != nil || strings.Join(got, " ") != want {
		t.Errorf("Match %s: %q, %s, want %s", source, got, told(err), want)
	}
}

// P23.1: examples 1 and 2 of the chapter.
func TestExamplesOfTexts(t *testing.T) {
	expectTree(t, `node["a"] ==`, api.OfNode, "121 at 12")
	expectTree(t, `it.name == "a"`, api.OfNode, "142 at 0")
	expectTree(t, `it.name == "a"`, api.OfIt, "none")
	expectTree(t, `true && node.name < "b"`, api.OfNode, "141 at 18")
	expectTree(t, `true`, api.OfPod, "149 at -1")
	if b, err := filter.Compile(""); len(b) > 0 || told(err) != "121 at 0" {
		t.Errorf("% x, %s", b, told(err))
	}
	if b, err := filter.Compile("true"); err != nil || fmt.Sprintf("% x", b) != "42 52 54 01 01 00 00 00 00 00 02 02 00 24" {
		t.Errorf("% x, %s", b, told(err))
	}
}

// P23.2: example 3 of the chapter.
func TestExamplesOfMatch(t *testing.T) {
	c := chapterCluster(t)
	expectMatch(t, c, `node["zone"] == "x"`, api.Pod{}, "a b")
	expectMatch(t, c, `count("zone", true) == 0`, api.Pod{}, "c")
	expectMatch(t, c, `apart("zone", it["app"] == "web")`, api.Pod{}, "c d")
}

// P23.4, P23.5: examples 4 to 8 of the chapter.
func TestExamplesOfVerdicts(t *testing.T) {
	c := chapterCluster(t)
	fits, cordoned := api.Reason{}, because(api.IsCordoned, 0, "")
	tainted, shunned := because(api.IsTainted, 0, "k=v:NoSchedule"), because(api.IsShunned, 0, "q")
	expectReasons(t, c, api.Pod{Name: "p", Needs: cpu(1)}, "b d", tainted, fits, cordoned, fits)
	expectReasons(t, c, api.Pod{Name: "p", Needs: cpu(2)}, "d", tainted, because(api.IsFull, 0, "cpu"), cordoned, fits)
	expectReasons(t, c, api.Pod{Name: "p", Labels: tags("app", "db")}, "d", tainted, shunned, cordoned, fits)
	tolerant := api.Pod{Name: "p", Labels: tags("app", "db"), Tolerations: []api.Toleration{{Key: "k", Op: api.Equal, Value: "v"}}}
	expectReasons(t, c, tolerant, "d", shunned, shunned, cordoned, fits)
	alike := api.Pod{Name: "p", Labels: tags("app", "web"), Apart: apart("zone", `it["app"] == pod["app"]`)}
	expectReasons(t, c, alike, "d", tainted, because(api.IsNear, 0, "q"), cordoned, fits)
	choosy := api.Pod{Name: "p", Require: `node["zone"] == "x" && node.name != "b"`}
	expectReasons(t, c, choosy, "", tainted, because(api.IsBarred, 5, ""), cordoned, because(api.IsBarred, 2, ""))
}

// P23.3: example 9 of the chapter.
func TestExamplesOfCheck(t *testing.T) {
	expectFault(t, api.Pod{Name: "p", Require: "nodes"}, "230 at -1 (120 at 0)")
	expectFault(t, api.Pod{Name: "p", Apart: apart("a b", "true")}, "231 at 0 (the number 31)")
	expectFault(t, api.Pod{Name: "p", Prefer: []api.Prefer{{Weight: 0, Text: "true"}}}, "233 at 0")
	expectFault(t, api.Pod{Name: "p", Prefer: []api.Prefer{{Weight: 1}}}, "232 at 0 (121 at 0)")
	expectFault(t, api.Pod{Name: "p", Apart: make([]api.Apart, 9)}, "235 at -1")
}

// P23.1, P23.2: examples 1 to 4, 6 and 7 of the whole.
func TestExamplesOfTheWhole(t *testing.T) {
	c := clusterOf(t, []api.Node{
		{Name: "a", Labels: tags("zone", "x", "gen", "7")},
		{Name: "b", Labels: tags("zone", "x", "disk", "hdd", "gen", "07")},
		{Name: "c", Labels: tags("zone", "y", "gen", "-1")},
		{Name: "d"},
	})
	expectMatch(t, c, `node["zone"] in {"x", "z"} && !(node["disk"] == "hdd")`, api.Pod{}, "a")
	expectMatch(t, c, `node["zone"] != "x"`, api.Pod{}, "c d")
	expectMatch(t, c, `!(node["zone"] == "x")`, api.Pod{}, "c d")
	expectMatch(t, c, `int(node["gen"]) < 8`, api.Pod{}, "a c")
	expectMatch(t, c, `!(int(node["gen"]) < 8)`, api.Pod{}, "b d")
	expectMatch(t, c, `int(node["gen"]) >= 8`, api.Pod{}, "")
	expectMatch(t, c, `node["zone"] == "x" && node["zone"] in {"y"}`, api.Pod{}, "")
	expectMatch(t, c, `node["zone"] == "x" || node["zone"] != "x"`, api.Pod{}, "a b c d")
	w := api.Pod{Name: "w", Labels: tags("app", "web"), Apart: apart("zone", `it["app"] == "web"`)}
	if _, err := c.Bind(w, "a"); err != nil {
		t.Fatal(err)
	}
	expectMatch(t, c, `near("zone", it["app"] == "web")`, api.Pod{}, "a b")
	expectMatch(t, c, `apart("zone", it["app"] == "web")`, api.Pod{}, "c d")
	expectMatch(t, c, `count("zone", true) == 0`, api.Pod{}, "c")
	expectMatch(t, c, `count("zone", true) != 1`, api.Pod{}, "c d")
	expectTree(t, "true && ", api.OfNode, "121 at 8")
	expectTree(t, `node.name < "b"`, api.OfNode, "141 at 10")
	expectTree(t, `near("zone", node.name == "a")`, api.OfNode, "142 at 13")
	// the ninth
	shunned := because(api.IsShunned, 0, "w")
	expectReasons(t, c, api.Pod{Name: "v", Labels: tags("app", "web")}, "c d", shunned, shunned, api.Reason{}, api.Reason{})
}

// P23.4, P23.6: examples 8 and 10 of the whole, as far as they speak of this layer.
func TestExamplesOfPlacing(t *testing.T) {
	c := clusterOf(t, []api.Node{{Name: "b"}, {Name: "a", Cap: cpu(4)}}, stand{api.Pod{Name: "p", Needs: cpu(3)}, "a"})
	q, full := api.Pod{Name: "q", Needs: cpu(2)}, because(api.IsFull, 0, "cpu")
	expectReasons(t, c, q, "", full, full)
	if _, err := c.Unbind("p"); err != nil {
		t.Fatal(err)
	}
	expectReasons(t, c, q, "a", api.Reason{}, full)

	c = clusterOf(t, []api.Node{{Name: "n2"}, {Name: "n1"}})
	expectReasons(t, c, api.Pod{Name: "p"}, "n1 n2", api.Reason{}, api.Reason{})
	if _, err := c.Remove("n1"); err != nil {
		t.Fatal(err)
	}
	c.Add(api.Node{Name: "n0"})
	c.Add(api.Node{Name: "n1"})
	expectReasons(t, c, api.Pod{Name: "p"}, "n0 n1 n2", api.Reason{}, api.Reason{}, api.Reason{})
}
