package score_test

import (
	"errors"
	"slices"
	"strings"
	"testing"

	"berth/api"
	"berth/filter"
	"berth/score"
)

// expectRefused holds the fault of a pod, at a node that is there and at one that isn't, of a list and of none.
func expectRefused(t *testing.T, p api.Pod, cause string) {
	t.Helper()
	c, x, _ := chapterCluster(t)
	want := told(&api.Fault{Code: 242, At: -1, Name: p.Name}) + " (" + cause + ")"
	for _, node := range []string{"a", "none"} {
		points, err := score.Points(c, x, p, node)
		if told(err) != want || points != (api.Points{}) {
			t.Errorf("Points of %s for %+v: %+v, %s, want %s", node, p, points, told(err), want)
		}
	}
	for _, nodes := range [][]string{{"a", "b"}, {"none"}, {}, nil} {
		expectNoBest(t, c, x, p, want, nodes...)
	}
}

// P24.1, P24.2: each fault of the pod is the cause of this layer's, and stands ahead of all others.
func TestPodsThatAreRefused(t *testing.T) {
	with := func(p api.Pod) api.Pod { p.Name = "p"; return p }
	all := []api.Prefer{wish(1, "true")}
	expectRefused(t, api.Pod{}, "30 at -1")
	expectRefused(t, api.Pod{Name: "P"}, "30 at -1 P")
	expectRefused(t, api.Pod{Name: "\xff"}, "30 at -1 \xff")
	expectRefused(t, with(api.Pod{Labels: tags("", "x")}), "31 at -1")
	expectRefused(t, with(api.Pod{Labels: tags("app", "a b")}), "32 at -1 app")
	expectRefused(t, with(api.Pod{Labels: tags("app", "a", "app", "a")}), "33 at -1 app")
	expectRefused(t, with(api.Pod{Needs: []api.Item{{Name: "A", N: 1}}}), "24 at -1 A")
	expectRefused(t, with(api.Pod{Needs: []api.Item{{Name: "cpu", N: -1}}}), "26 at -1 cpu")
	expectRefused(t, with(api.Pod{Tolerations: []api.Toleration{{Op: api.Exists}, {}}}), "46 at 1")
	expectRefused(t, with(api.Pod{Priority: api.MaxPriority + 1}), "234 at -1")
	expectRefused(t, with(api.Pod{Prefer: slices.Repeat(all, 9)}), "235 at -1")
	expectRefused(t, with(api.Pod{Apart: make([]api.Apart, 9)}), "235 at -1")
	expectRefused(t, with(api.Pod{Require: "true &&"}), "230 at -1 (121 at 7)")
	expectRefused(t, with(api.Pod{Apart: []api.Apart{{Topo: "", Select: "true"}}}), "231 at 0 (the number 31)")
	expectRefused(t, with(api.Pod{Apart: []api.Apart{{Topo: "zone", Select: "it.name"}}}), "231 at 0 (121 at 7)")
	expectRefused(t, with(api.Pod{Prefer: append(all, wish(0, "true"))}), "233 at 1")
	expectRefused(t, with(api.Pod{Prefer: append(all, wish(101, "true"))}), "233 at 1")
	expectRefused(t, with(api.Pod{Prefer: append(all, all[0], wish(1, ""))}), "232 at 2 (121 at 0)")
	expectRefused(t, with(api.Pod{Prefer: []api.Prefer{wish(1, `it.name == "a"`)}}), "232 at 0 (142 at 0)")
}

// P24.1, P24.2: the name is the one that was handed in; the cause is the fault that layer 23 answers, and is found by errors.Is.
func TestCauseOfRefusedPods(t *testing.T) {
	c, x, _ := chapterCluster(t)
	for _, p := range []api.Pod{{Name: "No!"}, {Name: "p", Apart: []api.Apart{{Topo: "a b", Select: "true"}}}, {Name: "p", Require: "&"}} {
		_, cause := filter.Check(p)
		_, points := score.Points(c, x, p, "a")
		_, _, best := score.Best(c, x, p, []string{"a"})
		for _, err := range []error{points, best} {
			var f *api.Fault
			if !errors.As(err, &f) || f.Code != api.ErrScorePod || f.Name != p.Name || told(f.Cause) != told(cause) {
				t.Errorf("%+v: %s, want the cause %s", p, told(err), told(cause))
			}
			for inner := cause; errors.As(inner, &f); inner = f.Cause {
				if !errors.Is(err, f.Code) {
					t.Errorf("%s is not %d", told(err), f.Code)
				}
			}
		}
	}
}

// P24.2: an empty list stands behind the pod's faults and ahead of the names.
func TestNoCandidates(t *testing.T) {
	c, x, p := chapterCluster(t)
	expectNoBest(t, c, x, p, "240 at -1")
	expectNoBest(t, c, x, p, "240 at -1", []string{}...)
	expectNoBest(t, c, x, p, "240 at -1", make([]string, 0, 5)...)
	expectNoBest(t, nil, nil, p, "240 at -1")
	expectNoBest(t, c, x, api.Pod{Name: "P"}, "242 at -1 P (30 at -1 P)")
}

// P24.1, P24.2: names that no node has: the first in the list is told, whatever names they are.
func TestNamesThatAreNotThere(t *testing.T) {
	c, x, p := chapterCluster(t)
	expectNoBest(t, c, x, p, "241 at 0 d", "d")
	expectNoBest(t, c, x, p, "241 at 0 d", "d", "a")
	expectNoBest(t, c, x, p, "241 at 1 d", "a", "d", "e", "d")
	expectNoBest(t, c, x, p, "241 at 1 e", "a", "e", "d", "a")
	expectNoBest(t, c, x, p, "241 at 3 0", "c", "b", "c", "0", "a")
	expectNoBest(t, c, x, p, "241 at 2", "c", "b", "", "a")
	for _, name := range []string{"", " a", "a ", "A", "q", "p", "zone", "\x00", "\xff\xfe", "ä", "aa", strings.Repeat("a", 63), strings.Repeat("a", 100000)} {
		fault := told(&api.Fault{Code: 241, At: -1, Name: name})
		if points, err := score.Points(c, x, p, name); told(err) != fault || points != (api.Points{}) {
			t.Errorf("%q: %+v, %s", name, points, told(err))
		}
		expectNoBest(t, c, x, p, told(&api.Fault{Code: 241, At: 1, Name: name}), "b", name)
	}
	if _, err := c.Remove("a"); err != nil {
		t.Fatal(err)
	}
	expectNoBest(t, c, x, p, "241 at 1 a", "b", "a")
}

// P24.1: a pod that is handed in raw is scored as layer 23 answers it.
func TestRawPods(t *testing.T) {
	c, x, _ := chapterCluster(t)
	raw := api.Pod{Name: "p", Labels: tags("zone", "y", "app", "web"), Needs: []api.Item{{Name: "mem", N: 5}, {Name: "gpu"}, {Name: "cpu", N: 1}}, Prefer: []api.Prefer{wish(30, `node["zone"] == pod["zone"]`)}}
	expectPoints(t, c, x, raw, "a", 62, 75, 0, 100, 100)
	expectPoints(t, c, x, raw, "b", 37, 75, 30, 50, 100)
	made, err := filter.Check(raw)
	if err != nil {
		t.Fatal(told(err))
	}
	for _, node := range c.Nodes() {
		if mustPoints(t, c, x, raw, node) != mustPoints(t, c, x, made, node) {
			t.Error(node)
		}
	}
	raw.Labels = append(raw.Labels, tags("app", "web")...)
	expectRefused(t, raw, "33 at -1 app")
}
