package mean_test

import (
	"fmt"
	"testing"

	"berth/api"
	"berth/cluster"
	"berth/mean"
)

// zones: a and b in x, c in y, d in the zone of the empty value, e without a zone; racks cut across.
func zones() []api.Node {
	return []api.Node{
		{Name: "a", Labels: labelled("zone", "x", "rack", "1")},
		{Name: "b", Labels: labelled("zone", "x", "rack", "2")},
		{Name: "c", Labels: labelled("zone", "y", "rack", "1")},
		{Name: "d", Labels: labelled("zone", "")},
		{Name: "e", Labels: labelled("rack", "2", "Zone", "x")},
	}
}

func web(name string) api.Pod { return api.Pod{Name: name, Labels: labelled("app", "web")} }
func db(name string) api.Pod  { return api.Pod{Name: name, Labels: labelled("app", "db", "rank", "3")} }

// nearAll: near, apart and count of one selector, each against the number of pods at each node, "-" where count is undefined.
func nearAll(t *testing.T, c *cluster.Cluster, key, selector string, p api.Pod, want string) {
	t.Helper()
	counting := read(t, fmt.Sprintf(`count(%q, %s) == 1`, key, selector))
	var counts, nears, aparts []string
	for _, named := range c.Nodes() {
		v, err := mean.Value(c, counting, p, named, len(counting.Parts)-3)
		if err != nil || v.Sort != api.SortNum {
			t.Fatal(selector, v, err)
		}
		switch {
		case !v.Known:
			counts, aparts = append(counts, "-"), append(aparts, named)
		case v.Num == 0:
			counts, aparts = append(counts, "0"), append(aparts, named)
		default:
			counts, nears = append(counts, fmt.Sprint(v.Num)), append(nears, named)
		}
	}
	if fmt.Sprint(counts) != want {
		t.Errorf("count(%q, %s): %v, want %s", key, selector, counts, want)
	}
	check(t, c, counting, p)
	expectWhere(t, c, fmt.Sprintf(`near(%q, %s)`, key, selector), p, fmt.Sprint(nears))
	expectWhere(t, c, fmt.Sprintf(`apart(%q, %s)`, key, selector), p, fmt.Sprint(aparts))
	expectWhere(t, c, fmt.Sprintf(`!near(%q, %s)`, key, selector), p, fmt.Sprint(aparts))
}

// P15.1, P15.4, L2: with bound pods on this node, on another of the same value, on one of another value, on one of the empty value, on one without the key, and with none.
func TestNear(t *testing.T) {
	for _, x := range []struct {
		on, zone, rack string
	}{
		{"", "[0 0 0 0 -]", "[0 0 0 - 0]"},
		{"a", "[1 1 0 0 -]", "[1 0 1 - 0]"},
		{"b", "[1 1 0 0 -]", "[0 1 0 - 1]"},
		{"c", "[0 0 1 0 -]", "[1 0 1 - 0]"},
		{"d", "[0 0 0 1 -]", "[0 0 0 - 0]"},
		{"e", "[0 0 0 0 -]", "[0 1 0 - 1]"},
		{"aa", "[2 2 0 0 -]", "[2 0 2 - 0]"},
		{"ab", "[2 2 0 0 -]", "[1 1 1 - 1]"},
		{"abc", "[2 2 1 0 -]", "[2 1 2 - 1]"},
		{"de", "[0 0 0 1 -]", "[0 1 0 - 1]"},
		{"abcde", "[2 2 1 1 -]", "[2 2 2 - 2]"},
	} {
		var pods []stand
		for i, on := range x.on {
			pods = append(pods, stand{web(fmt.Sprint("p", i)), string(on)})
		}
		c := clusterOf(t, zones(), pods...)
		nearAll(t, c, "zone", `true`, api.Pod{}, x.zone)
		nearAll(t, c, "rack", `true`, api.Pod{}, x.rack)
		nearAll(t, c, "zone", `it["app"] == "web"`, api.Pod{}, x.zone)
		nearAll(t, c, "rack", `it.name notin {}`, api.Pod{}, x.rack)
		nearAll(t, c, "zone", `it["app"] != "web"`, api.Pod{}, "[0 0 0 0 -]")
		nearAll(t, c, "zone", `false`, api.Pod{}, "[0 0 0 0 -]")
		nearAll(t, c, "host", `true`, api.Pod{}, "[- - - - -]")
	}
}

// P15.1: what a selector says of the bound pod and of the pod to be placed.
func TestSelectorsWithin(t *testing.T) {
	c := clusterOf(t, zones(), stand{web("w"), "a"}, stand{db("q"), "b"}, stand{db("r"), "c"}, stand{api.Pod{Name: "bare"}, "d"}, stand{web("lost"), "e"})
	p := api.Pod{Name: "q", Labels: labelled("app", "db", "rank", "4", "app", "web")}
	for _, x := range []struct{ selector, zone string }{
		{`true`, "[2 2 1 1 -]"},
		{`it["app"] == "web"`, "[1 1 0 0 -]"},
		{`it["app"] == "db"`, "[1 1 1 0 -]"},
		{`it["app"] != "db"`, "[1 1 0 1 -]"},
		{`it["app"] == pod["app"]`, "[1 1 1 0 -]"},
		{`it["app"] != pod["app"]`, "[1 1 0 1 -]"},
		{`it["app"] == pod["none"]`, "[0 0 0 0 -]"},
		{`it["none"] != pod["none"]`, "[2 2 1 1 -]"},
		{`it.name == pod.name`, "[1 1 0 0 -]"},
		{`it.name != pod.name`, "[1 1 1 1 -]"},
		{`it.name in {"w", "q", "bare", "lost"}`, "[2 2 0 1 -]"},
		{`it.name notin {"w", "q", "bare", "lost"}`, "[0 0 1 0 -]"},
		{`int(it["rank"]) < int(pod["rank"])`, "[1 1 1 0 -]"},
		{`int(it["rank"]) != 3`, "[1 1 0 1 -]"},
		{`!(int(it["rank"]) < 4)`, "[1 1 0 1 -]"},
		{`int(it["rank"]) in {1, 2, 3}`, "[1 1 1 0 -]"},
		{`"rank" in it.keys`, "[1 1 1 0 -]"},
		{`"app" notin it.keys`, "[0 0 0 1 -]"},
		{`it["app"] in pod.keys`, "[0 0 0 0 -]"},
		{`pod.name == "q"`, "[2 2 1 1 -]"},
		{`pod.name != "q"`, "[0 0 0 0 -]"},
		{`it["app"] == "web" || it.name == "r"`, "[1 1 1 0 -]"},
		{`it["app"] == "db" && !(it.name == "r")`, "[1 1 0 0 -]"},
	} {
		nearAll(t, c, "zone", x.selector, p, x.zone)
	}
}

// P15.1, L3: all bound pods count, whatever their names are; the pod to be placed counts only as the one that is bound, with the labels that are bound.
func TestBoundUnderTheSameName(t *testing.T) {
	c := clusterOf(t, zones(), stand{web("p"), "a"})
	for _, p := range []api.Pod{{}, {Name: "p"}, {Name: "other"}, db("p"), web("p"), web("other")} {
		nearAll(t, c, "zone", `true`, p, "[1 1 0 0 -]")
		nearAll(t, c, "zone", `it["app"] == "web"`, p, "[1 1 0 0 -]")
		nearAll(t, c, "zone", `it["app"] == "db"`, p, "[0 0 0 0 -]")
		nearAll(t, c, "zone", `it.name == "p"`, p, "[1 1 0 0 -]")
		nearAll(t, c, "zone", `it.name == "other"`, p, "[0 0 0 0 -]")
	}
	nearAll(t, c, "zone", `it["app"] == pod["app"]`, db("p"), "[0 0 0 0 -]")
	nearAll(t, c, "zone", `it["app"] == pod["app"]`, web("x"), "[1 1 0 0 -]")
	empty := clusterOf(t, zones())
	nearAll(t, empty, "zone", `true`, web("p"), "[0 0 0 0 -]")
	nearAll(t, empty, "zone", `it.name == pod.name`, web("p"), "[0 0 0 0 -]")
}

// P15.1: counts held against numbers, with the count on either side.
func TestCountsCompared(t *testing.T) {
	c := clusterOf(t, zones(), stand{web("w"), "a"}, stand{db("q"), "b"}, stand{db("r"), "c"})
	p := api.Pod{Labels: labelled("max", "1", "bad", "x")}
	for _, x := range []struct{ source, want string }{
		{`count("zone", true) == 2`, "[a b]"},
		{`count("zone", true) != 2`, "[c d e]"},
		{`count("zone", true) < 2`, "[c d]"},
		{`count("zone", true) <= 2`, "[a b c d]"},
		{`count("zone", true) > 0`, "[a b c]"},
		{`count("zone", true) >= -1`, "[a b c d]"},
		{`!(count("zone", true) < 2)`, "[a b e]"},
		{`1 < count("zone", true)`, "[a b]"},
		{`count("zone", true) <= int(pod["max"])`, "[c d]"},
		{`count("zone", true) <= int(pod["bad"])`, "[]"},
		{`count("zone", true) != int(pod["bad"])`, "[a b c d e]"},
		{`count("zone", true) in {0, 2}`, "[a b d]"},
		{`count("zone", true) notin {0, 2}`, "[c e]"},
		{`count("zone", true) in {}`, "[]"},
		{`count("zone", it["app"] == "db") == 1 && near("rack", it.name == "w")`, "[a c]"},
		{`apart("zone", it.name == "r") && apart("rack", it.name == "w")`, "[b d e]"},
	} {
		expectWhere(t, c, x.source, p, x.want)
	}
}

// P15.1, P15.3, R7: a nil cluster has no node; one without nodes neither; one without bound pods has no pod near.
func TestNoNodesNoPods(t *testing.T) {
	for _, c := range []*cluster.Cluster{nil, cluster.New()} {
		for _, source := range []string{`true`, `false`, `near("zone", true)`, `apart("zone", true)`, `count("zone", true) != 1`, `node.name == ""`, `tolerated("NoExecute")`, `"a" notin node.taints`} {
			expectWhere(t, c, source, api.Pod{}, "[]")
			expectWhere(t, c, source, rawPod(), "[]")
		}
		check(t, c, api.Tree{}, api.Pod{})
	}
	bare := clusterOf(t, []api.Node{{Name: "a"}})
	expectWhere(t, bare, `near("zone", true)`, api.Pod{}, "[]")
	expectWhere(t, bare, `apart("zone", true)`, api.Pod{}, "[a]")
	expectWhere(t, bare, `count("zone", true) != 0`, api.Pod{}, "[a]")
}

// P15.1, P15.3: answers follow the cluster: pods that are bound and unbound, nodes that are labelled, unlabelled, added, removed, tainted, resized.
func TestAnswersFollowTheCluster(t *testing.T) {
	c := clusterOf(t, zones())
	near := `near("zone", it["app"] == "web")`
	step := func(_ api.Change, err error) {
		t.Helper()
		if err != nil {
			t.Fatal(err)
		}
	}
	expectWhere(t, c, near, api.Pod{}, "[]")
	step(c.Bind(web("p"), "a"))
	expectWhere(t, c, near, api.Pod{}, "[a b]")
	step(c.Label("a", "zone", "y"))
	expectWhere(t, c, near, api.Pod{}, "[a c]")
	step(c.Unlabel("a", "zone"))
	expectWhere(t, c, near, api.Pod{}, "[]")
	step(c.Label("a", "zone", ""))
	expectWhere(t, c, near, api.Pod{}, "[a d]")
	step(c.Unbind("p"))
	expectWhere(t, c, near, api.Pod{}, "[]")
	step(c.Bind(web("p"), "e"))
	step(c.Label("e", "zone", "w"))
	step(c.Add(api.Node{Name: "f", Labels: labelled("zone", "w")}))
	expectWhere(t, c, near, api.Pod{}, "[e f]")
	step(c.Remove("f"))
	expectWhere(t, c, near, api.Pod{}, "[e]")
	expectWhere(t, c, `tolerated("NoExecute") && node.cap("cpu") == 0 && "k" notin node.taints`, api.Pod{}, "[a b c d e]")
	step(c.Taint("a", api.Taint{Key: "k", Effect: api.NoExecute}))
	step(c.Resize("b", []api.Item{{Name: "cpu", N: 1}}))
	step(c.Cordon("c", true))
	expectWhere(t, c, `tolerated("NoExecute") && node.cap("cpu") == 0 && "k" notin node.taints`, api.Pod{}, "[c d e]")
	expectWhere(t, c, `"k" in node.taints`, api.Pod{}, "[a]")
	step(c.Bind(api.Pod{Name: "q", Needs: []api.Item{{Name: "cpu", N: 1}}}, "b"))
	expectWhere(t, c, `node.cap("cpu") == 1`, api.Pod{}, "[b]")
}
