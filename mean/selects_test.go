package mean_test

import (
	"testing"

	"berth/api"
	"berth/mean"
)

// P15.2: what a selector says of the pod it, for the pod to be placed; both may be raw.
func TestSelects(t *testing.T) {
	p := api.Pod{Name: "p", Labels: labelled("app", "web", "n", "4", "app", "db")}
	raw := api.Pod{Name: "It!", Labels: labelled("zone", "z", "app", "web", "", "-", "app", "x", "n", "04", "zone", "y", "m", "12")}
	for _, x := range []struct {
		source string
		want   bool
	}{
		{`true`, true},
		{`false`, false},
		{`!false && (false || true)`, true},
		{`it.name == "It!"`, true},
		{`it.name == pod.name`, false},
		{`it.name != pod.name`, true},
		{`pod.name == "p"`, true},
		{`it["app"] == "web"`, true},
		{`it["app"] == "x"`, false},
		{`it["app"] == pod["app"]`, true},
		{`it["zone"] == "z"`, true},
		{`it["zone"] in {"y"}`, false},
		{`it["zone"] in {"y", "z"}`, true},
		{`it["none"] == ""`, false},
		{`it["none"] != ""`, true},
		{`it["none"] notin {}`, true},
		{`pod["none"] in {"x"}`, false},
		{`int(it["n"]) == 4`, false},
		{`int(it["n"]) != 4`, true},
		{`int(it["m"]) > int(pod["n"])`, true},
		{`int(it["m"]) in {1, 12, 1}`, true},
		{`"" in it.keys`, true},
		{`"app" in it.keys && "none" notin it.keys`, true},
		{`it["app"] in pod.keys`, false},
		{`pod["n"] in it.keys`, false},
		{`"n" in pod.keys && "zone" notin pod.keys`, true},
	} {
		selects, fault := checkSelects(t, read(t, x.source), p, raw)
		if selects != x.want || fault != nil {
			t.Errorf("Selects(%s): %v, %v, want %v", x.source, selects, fault, x.want)
		}
	}
}

// P15.2: a selector says at a pod that is handed in just what it says at that pod within a near, where it is bound.
func TestSelectsAsWithin(t *testing.T) {
	sources := []string{
		`true`, `false`, `it.name == "w"`, `it["app"] == pod["app"]`, `it["app"] != pod["app"]`, `int(it["rank"]) <= 3`,
		`!(int(it["rank"]) <= 3)`, `"rank" in it.keys`, `it.name in {"q", "w"} || it["app"] notin {"web"}`, `pod["app"] == "db"`,
	}
	for _, bound := range []api.Pod{web("w"), db("q"), {Name: "bare"}} {
		c := clusterOf(t, zones(), stand{bound, "a"})
		for _, p := range []api.Pod{{}, web("w"), db("q"), rawPod()} {
			for _, source := range sources {
				selects, fault := checkSelects(t, read(t, source), p, bound)
				near, err := mean.Holds(c, read(t, `near("zone", `+source+`)`), p, "b")
				if near != selects || fault != nil || err != nil {
					t.Errorf("%s at %s for %s: %v alone, %v within", source, bound.Name, p.Name, selects, near)
				}
			}
		}
	}
}

// P15.2: what layer 14 refuses in a selector, with its place and its cause, though it may be a constraint.
func TestSelectsRefused(t *testing.T) {
	for _, x := range []struct {
		source string
		code   api.Errno
		at     int
	}{
		{`node.name == "a"`, api.ErrSortScope, 0},
		{`true && "k" in node.taints`, api.ErrSortScope, 2},
		{`node.cap("cpu") > 1`, api.ErrSortScope, 0},
		{`it.taints == 1`, api.ErrSortScope, 0},
		{`tolerated("NoExecute")`, api.ErrSortScope, 0},
		{`near("zone", true)`, api.ErrSortInner, 1},
		{`apart("zone", it.name == "a")`, api.ErrSortInner, 3},
		{`1 == count("zone", true)`, api.ErrSortInner, 2},
		{`it.name == it["a"]`, api.ErrSortSides, 2},
		{`it.name < "a"`, api.ErrSortType, 2},
		{`it["a b"] == "a"`, api.ErrSortKey, 0},
		{`int(it.name) == 1`, api.ErrSortInt, 0},
		{`1 in {1, "a"}`, api.ErrSortSet, 2},
	} {
		selects, err := mean.Selects(read(t, x.source), api.Pod{}, api.Pod{})
		want := &api.Fault{Code: api.ErrMean, At: x.at, Cause: &api.Fault{Code: x.code, At: x.at}}
		if selects || !sameFault(err, want) {
			t.Errorf("Selects(%s): %v, %v, want %v", x.source, selects, err, want)
		}
		checkSelects(t, read(t, x.source), rawPod(), rawPod())
	}
	for _, x := range invalid() {
		selects, err := mean.Selects(x.tree, api.Pod{}, api.Pod{})
		want := &api.Fault{Code: api.ErrMean, At: x.at, Cause: &api.Fault{Code: api.ErrSortTree, At: x.at, Cause: &api.Fault{Code: x.code, At: x.at}}}
		if selects || !sameFault(err, want) {
			t.Errorf("Selects(%s): %v, %v, want %v", told(x.tree), selects, err, want)
		}
	}
}
