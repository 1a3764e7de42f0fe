package filter_test

import (
	"errors"
	"slices"
	"strings"
	"testing"

	"berth/api"
	"berth/cluster"
	"berth/filter"
)

// expectFault holds the fault of a pod, that of the model too, and that Feasible and Explain tell the same.
func expectFault(t *testing.T, p api.Pod, fault string) {
	t.Helper()
	if want := append(faultsOf(p), "none")[0]; want != fault {
		t.Errorf("%+v: by the model %s, want %s", p, want, fault)
	}
	got, err := filter.Check(p)
	if told(err) != fault || !samePod(got, api.Pod{}) {
		t.Errorf("Check of %+v: %+v, %s, want %s", p, got, told(err), fault)
	}
	c := clusterOf(t, []api.Node{{Name: "a"}})
	if names, err := filter.Feasible(c, nil, p); told(err) != fault || len(names) > 0 {
		t.Errorf("Feasible of %+v: %q, %s, want %s", p, names, told(err), fault)
	}
	for _, node := range []string{"a", "b"} {
		if why, err := filter.Explain(c, p, node); told(err) != fault || why != (api.Reason{}) {
			t.Errorf("Explain of %+v at %s: %v, %s, want %s", p, node, why, told(err), fault)
		}
	}
}

// expectChecked holds P23.3 for any pod: the model's first fault, or the pod as layer 6 makes it, which Check answers again.
func expectChecked(t *testing.T, p api.Pod) bool {
	t.Helper()
	want := append(faultsOf(p), "none")[0]
	got, err := filter.Check(p)
	if told(err) != want {
		t.Fatalf("Check of %+v: %s, want %s", p, told(err), want)
	}
	if err != nil {
		if !samePod(got, api.Pod{}) {
			t.Fatalf("Check of %+v: %+v beside %s", p, got, want)
		}
		return false
	}
	made, _ := cluster.CheckPod(p)
	again, err := filter.Check(got)
	if !samePod(got, made) || err != nil || !samePod(again, got) {
		t.Fatalf("Check of %+v: %+v, and again %+v, %s; want %+v", p, got, again, told(err), made)
	}
	return true
}

func terms(n int, term api.Apart) []api.Apart { return slices.Repeat([]api.Apart{term}, n) }

func prefers(n int, term api.Prefer) []api.Prefer { return slices.Repeat([]api.Prefer{term}, n) }

// P23.3: pods at the edges that are taken; the lists of labels and needs made, all else as it was.
func TestCheckTakes(t *testing.T) {
	term, wish := api.Apart{Topo: "zone", Select: "true"}, api.Prefer{Weight: 1, Text: "true"}
	for _, p := range []api.Pod{
		{Name: "p"},
		{Name: "p", Require: "false", Apart: []api.Apart{}, Prefer: []api.Prefer{}},
		{Name: "p", Apart: terms(8, term), Prefer: prefers(8, wish)},
		{Name: "p", Priority: 1000000}, {Name: "p", Priority: -1000000}, {Name: "p", Priority: -1},
		{Name: "p", Prefer: []api.Prefer{{Weight: 100, Text: "false"}, wish, wish}},
		{Name: "p", Apart: apart("k/A", `it.name != pod.name`, strings.Repeat("k", 63), "false", "zone", `int(it["n"]) < int(pod["n"])`, "zone", "true")},
		{Name: "p", Require: "# of the first zone\n" + `node["zone"] == "x"`, Labels: tags("b", "1", "a", "2", "c", ""), Needs: []api.Item{{Name: "mem", N: 1}, {Name: "gpu"}, {Name: "cpu", N: 2}}},
		{Name: "p", Tolerations: []api.Toleration{{Key: "t", Op: api.Exists}, {Op: api.Exists}, {Key: "a", Op: api.Equal}}},
	} {
		if !expectChecked(t, p) {
			t.Errorf("%+v: %q", p, faultsOf(p))
		}
	}
	p, err := filter.Check(api.Pod{Name: "p", Labels: tags("b", "1", "a", "2"), Needs: []api.Item{{Name: "mem", N: 1}, {Name: "cpu"}}})
	if err != nil || !slices.Equal(p.Labels, tags("a", "2", "b", "1")) || !slices.Equal(p.Needs, []api.Item{{Name: "mem", N: 1}}) {
		t.Errorf("%+v, %s", p, told(err))
	}
}

// P23.3: each fault with its place, its name and its cause.
func TestCheckFaults(t *testing.T) {
	term, wish := api.Apart{Topo: "zone", Select: "true"}, api.Prefer{Weight: 1, Text: "true"}
	with := func(p api.Pod) api.Pod { p.Name = "p"; return p }
	expectFault(t, api.Pod{}, "30 at -1")
	expectFault(t, api.Pod{Name: "No!"}, "30 at -1 No!")
	expectFault(t, with(api.Pod{Labels: tags("a", "1", "a", "2")}), "33 at -1 a")
	expectFault(t, with(api.Pod{Needs: []api.Item{{Name: "cpu", N: -1}}}), "26 at -1 cpu")
	expectFault(t, with(api.Pod{Tolerations: []api.Toleration{{Op: api.Exists}, {Key: "t", Op: "Never"}}}), "46 at 1")

	for _, n := range []int{1000001, -1000001, 1 << 62, -1 << 63, 1<<63 - 1} {
		expectFault(t, with(api.Pod{Priority: n}), "234 at -1")
	}
	expectFault(t, with(api.Pod{Apart: terms(9, term)}), "235 at -1")
	expectFault(t, with(api.Pod{Prefer: prefers(9, wish)}), "235 at -1")
	expectFault(t, with(api.Pod{Apart: terms(1000, term), Prefer: prefers(1, wish)}), "235 at -1")
	expectFault(t, with(api.Pod{Apart: terms(8, term), Prefer: prefers(9, wish)}), "235 at -1")

	expectFault(t, with(api.Pod{Require: " "}), "230 at -1 (121 at 1)")
	expectFault(t, with(api.Pod{Require: "# nothing"}), "230 at -1 (121 at 9)")
	expectFault(t, with(api.Pod{Require: `true & true`}), "230 at -1 (111 at 5)")
	expectFault(t, with(api.Pod{Require: `true && it.name == "a"`}), "230 at -1 (142 at 8)")
	expectFault(t, with(api.Pod{Require: `node.name`}), "230 at -1 (121 at 9)")

	expectFault(t, with(api.Pod{Apart: []api.Apart{term, {Topo: "", Select: "true"}}}), "231 at 1 (the number 31)")
	expectFault(t, with(api.Pod{Apart: []api.Apart{{Topo: strings.Repeat("k", 128), Select: "true"}}}), "231 at 0 (the number 31)")
	expectFault(t, with(api.Pod{Apart: []api.Apart{{Topo: "zone "}}}), "231 at 0 (the number 31)")
	expectFault(t, with(api.Pod{Apart: append(terms(7, term), api.Apart{Topo: "zone"})}), "231 at 7 (121 at 0)")
	expectFault(t, with(api.Pod{Apart: []api.Apart{term, term, {Topo: "zone", Select: `"`}}}), "231 at 2 (112 at 0)")
	expectFault(t, with(api.Pod{Apart: apart("zone", `node["a"] == "b"`)}), "231 at 0 (142 at 0)")
	expectFault(t, with(api.Pod{Apart: apart("zone", `true && near("zone", true)`)}), "231 at 0 (143 at 8)")
	expectFault(t, with(api.Pod{Apart: apart("zone", `tolerated("NoSchedule")`)}), "231 at 0 (142 at 0)")

	for _, weight := range []int{0, 101, -1, 1 << 62, -1 << 63} {
		expectFault(t, with(api.Pod{Prefer: []api.Prefer{wish, {Weight: weight, Text: "true"}}}), "233 at 1")
	}
	expectFault(t, with(api.Pod{Prefer: append(prefers(7, wish), api.Prefer{Weight: 100, Text: "yes"})}), "232 at 7 (120 at 0)")
	expectFault(t, with(api.Pod{Prefer: []api.Prefer{{Weight: 1, Text: `it.name == "a"`}}}), "232 at 0 (142 at 0)")
	expectFault(t, with(api.Pod{Prefer: []api.Prefer{{Weight: 1, Text: `node.name < "a"`}}}), "232 at 0 (141 at 10)")
}

// P23.3, R2: of several faults the first one is told: as each one is mended, the next one is.
func TestFaultsInOrder(t *testing.T) {
	p := api.Pod{
		Name: "P", Labels: tags("a b", ""), Needs: []api.Item{{Name: "", N: 1}}, Tolerations: []api.Toleration{{}}, Priority: 1000001,
		Require: "&", Apart: append(apart("", "&", "zone", "&"), make([]api.Apart, 7)...), Prefer: append([]api.Prefer{{Text: "&"}, {Text: "&"}}, make([]api.Prefer, 7)...),
	}
	for _, step := range []struct {
		fault string
		mend  func()
	}{
		{"30 at -1 P", func() { p.Name = "p" }},
		{"31 at -1 a b", func() { p.Labels = nil }},
		{"24 at -1", func() { p.Needs = nil }},
		{"46 at 0", func() { p.Tolerations = nil }},
		{"234 at -1", func() { p.Priority = 7 }},
		{"235 at -1", func() { p.Apart = p.Apart[:2] }},
		{"235 at -1", func() { p.Prefer = p.Prefer[:2] }},
		{"230 at -1 (111 at 0)", func() { p.Require = "" }},
		{"231 at 0 (the number 31)", func() { p.Apart[0].Topo = "zone" }},
		{"231 at 0 (111 at 0)", func() { p.Apart[0].Select = "true" }},
		{"231 at 1 (111 at 0)", func() { p.Apart[1].Select = "true" }},
		{"233 at 0", func() { p.Prefer[0].Weight = 1 }},
		{"232 at 0 (111 at 0)", func() { p.Prefer[0].Text = "true" }},
		{"233 at 1", func() { p.Prefer[1].Weight = 100 }},
		{"232 at 1 (111 at 0)", func() { p.Prefer[1].Text = "true" }},
	} {
		expectFault(t, p, step.fault)
		step.mend()
	}
	if !expectChecked(t, p) {
		t.Errorf("%+v: %q", p, faultsOf(p))
	}
}

// R2: what led to a fault is found by errors.Is and errors.As.
func TestCausesAreFound(t *testing.T) {
	_, err := filter.Check(api.Pod{Name: "p", Apart: apart("a b", "true")})
	if !errors.Is(err, api.ErrApart) || !errors.Is(err, api.ErrKey) || errors.Is(err, api.ErrEnd) {
		t.Error(told(err))
	}
	_, err = filter.Check(api.Pod{Name: "p", Require: "true &&"})
	if !errors.Is(err, api.ErrRequire) || !errors.Is(err, api.ErrEnd) || errors.Is(err, api.ErrKey) {
		t.Error(told(err))
	}
	var f *api.Fault
	if !errors.As(errors.Unwrap(err), &f) || f.At != 7 {
		t.Error(told(err))
	}
}

// P23.3, P1: pods of any kind.
func TestCheckOfAnyPod(t *testing.T) {
	r := newChance(3)
	seen, taken := map[string]int{}, 0
	for range 10000 {
		p := r.rawPod()
		if expectChecked(t, p) {
			taken++
			continue
		}
		code, _, _ := strings.Cut(faultsOf(p)[0], " ")
		seen[code]++
	}
	for _, code := range []string{"30", "31", "24", "26", "230", "231", "232", "233", "234", "235"} {
		if seen[code] < 50 {
			t.Errorf("only %d times %s", seen[code], code)
		}
	}
	if taken < 2000 {
		t.Errorf("only %d pods are taken", taken)
	}
}
