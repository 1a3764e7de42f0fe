package mean_test

import (
	"testing"

	"berth/api"
	"berth/cluster"
	"berth/mean"
)

// chapterCluster is the one of the chapter's examples.
func chapterCluster(t *testing.T) *cluster.Cluster {
	t.Helper()
	return clusterOf(t, []api.Node{
		{Name: "a", Labels: labelled("zone", "x", "gen", "7")},
		{Name: "b", Labels: labelled("zone", "y", "gen", "007")},
		{Name: "c"},
	},
		stand{api.Pod{Name: "p", Labels: labelled("app", "web")}, "a"},
		stand{api.Pod{Name: "q", Labels: labelled("app", "db")}, "b"},
	)
}

// P15.1, P15.3, L1, L2, L7: examples 1 to 4 of the chapter.
func TestExamplesHold(t *testing.T) {
	c := chapterCluster(t)
	for _, x := range []struct{ source, want string }{
		{`node["zone"] != "x"`, "[b c]"},
		{`!(node["zone"] == "x")`, "[b c]"},
		{`node["zone"] in {"x", "y"}`, "[a b]"},
		{`int(node["gen"]) >= 7`, "[a]"},
		{`!(int(node["gen"]) >= 7)`, "[b c]"},
		{`int(node["gen"]) < 7`, "[]"},
		{`int(node["gen"]) != 7`, "[b c]"},
		{`near("zone", it["app"] == "web")`, "[a]"},
		{`apart("zone", it["app"] == "web")`, "[b c]"},
		{`count("zone", true) == 1`, "[a b]"},
		{`count("zone", true) != 1`, "[c]"},
		{`count("zone", true) <= 0`, "[]"},
		{`near("zone", it["app"] == pod["app"])`, "[]"},
	} {
		expectWhere(t, c, x.source, api.Pod{}, x.want)
	}
	expectWhere(t, c, `near("zone", it.name != pod.name)`, api.Pod{Name: "p"}, "[b]")
}

// P15.5: example 5 of the chapter.
func TestExamplesDecide(t *testing.T) {
	c := chapterCluster(t)
	for _, x := range []struct {
		source, node string
		place        int
		holds        bool
	}{
		{`node["zone"] == "x" && (true || near("zone", false))`, "c", 2, false},
		{`node["zone"] == "x" && (true || near("zone", false))`, "a", 7, true},
		{`!(node["zone"] == "y")`, "b", 2, false},
	} {
		tree := read(t, x.source)
		if place, holds, err := mean.Why(c, tree, api.Pod{}, x.node); place != x.place || holds != x.holds || err != nil {
			t.Errorf("%s at %s: %d, %v, %v", x.source, x.node, place, holds, err)
		}
		check(t, c, tree, api.Pod{})
	}
}

// P15.4: example 6 of the chapter.
func TestExamplesWorth(t *testing.T) {
	c := chapterCluster(t)
	for _, x := range []struct {
		source, node string
		part         int
		want         api.Value
		code         api.Errno
	}{
		{`node["zone"] == ""`, "c", 0, api.Value{Sort: api.SortText}, api.OK},
		{`count("zone", true) == 3`, "a", 1, api.Value{Sort: api.SortNum, Known: true, Num: 1}, api.OK},
		{`count("zone", true) == 3`, "a", 0, api.Value{}, api.ErrMean},
		{`node.name in {"b", "a", "b"}`, "a", 4, api.Value{Sort: api.SortTexts, Known: true, Texts: []string{"a", "b"}}, api.OK},
	} {
		tree := read(t, x.source)
		var fault *api.Fault
		if x.code != api.OK {
			fault = &api.Fault{Code: x.code, At: x.part}
		}
		if v, err := mean.Value(c, tree, api.Pod{}, x.node, x.part); !sameValue(v, x.want) || !sameFault(err, fault) {
			t.Errorf("%s at %s of %d: %+v, %v", x.source, x.node, x.part, v, err)
		}
		check(t, c, tree, api.Pod{})
	}
}

// P15.3, L1 to L3, L7: the examples of the whole that speak of the meaning.
func TestExamplesOfTheWhole(t *testing.T) {
	c := clusterOf(t, []api.Node{
		{Name: "a", Labels: labelled("zone", "x", "gen", "7")},
		{Name: "b", Labels: labelled("zone", "x", "disk", "hdd", "gen", "07")},
		{Name: "c", Labels: labelled("zone", "y", "gen", "-1")},
		{Name: "d"},
	})
	expectWhere(t, c, `node["zone"] in {"x", "z"} && !(node["disk"] == "hdd")`, api.Pod{}, "[a]")
	expectWhere(t, c, `node["zone"] != "x"`, api.Pod{}, "[c d]")
	expectWhere(t, c, `!(node["zone"] == "x")`, api.Pod{}, "[c d]")
	expectWhere(t, c, `int(node["gen"]) < 8`, api.Pod{}, "[a c]")
	expectWhere(t, c, `!(int(node["gen"]) < 8)`, api.Pod{}, "[b d]")
	expectWhere(t, c, `int(node["gen"]) >= 8`, api.Pod{}, "[]")
	if _, err := c.Bind(api.Pod{Name: "w", Labels: labelled("app", "web")}, "a"); err != nil {
		t.Fatal(err)
	}
	expectWhere(t, c, `near("zone", it["app"] == "web")`, api.Pod{}, "[a b]")
	expectWhere(t, c, `apart("zone", it["app"] == "web")`, api.Pod{}, "[c d]")
	expectWhere(t, c, `count("zone", true) == 0`, api.Pod{}, "[c]")
	expectWhere(t, c, `count("zone", true) != 1`, api.Pod{}, "[c d]")
}
