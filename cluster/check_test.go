package cluster_test

import (
	"slices"
	"strconv"
	"strings"
	"testing"

	"berth/api"
	"berth/cluster"
)

func manyTags(n int) []api.Label {
	var list []api.Label
	for i := range n {
		list = append(list, api.Label{Key: "k" + strconv.Itoa(i)})
	}
	return list
}

func manyMarks(n int) []api.Taint {
	var list []api.Taint
	for i := range n {
		list = append(list, mark("k"+strconv.Itoa(i), "", api.NoSchedule))
	}
	return list
}

func manyItems(n, amount int) []api.Item {
	var list []api.Item
	for i := range n {
		list = append(list, api.Item{Name: "r" + strconv.Itoa(i), N: amount})
	}
	return list
}

func manyTolerations(n int) []api.Toleration {
	var list []api.Toleration
	for range n {
		list = append(list, api.Toleration{Op: api.Exists})
	}
	return list
}

var (
	goodNames = []string{"a", "0", "n-1.z9", "a--b", "9.9.9", strings.Repeat("n", 63)}
	badNames  = []string{"", "A", "B", "-a", "a-", "a..b", ".a", "a.", "a.-b", "a_b", "a b", "é", "\xff", "a\x00", strings.Repeat("n", 64), strings.Repeat("n", 100000)}
)

// faulty is a wrong list with what is to be told of it.
type faulty[T any] struct {
	list []T
	want *api.Fault
}

var labelFaults = []faulty[api.Label]{
	{tags("zone", "a", "zone", "b"), wrong(api.ErrKeyDup, "zone")},
	{tags("b", "1", "a", "1", "b", "1"), wrong(api.ErrKeyDup, "b")},
	{tags("b", "1", "", "1", "b", "1"), wrong(api.ErrKey, "")},
	{tags("b", "1", "x/y/z", "_"), wrong(api.ErrKey, "x/y/z")},
	{tags("b", "1", "a", "_", "b", "2"), wrong(api.ErrValue, "a")},
	{tags("b", "1", "b", "_"), wrong(api.ErrValue, "b")},
	{manyTags(33), wrong(api.ErrLabels, "")},
	{append(tags("", ""), manyTags(32)...), wrong(api.ErrLabels, "")},
}

var taintFaults = []faulty[api.Taint]{
	{[]api.Taint{mark("k", "", "Never")}, wrongAt(api.ErrEffect, 0)},
	{[]api.Taint{mark("k", "", api.NoSchedule), mark("k", "", "Never")}, wrongAt(api.ErrEffect, 1)},
	{[]api.Taint{mark("b", "", api.NoSchedule), mark("a", "_", ""), mark("", "", "")}, wrongAt(api.ErrTaintValue, 1)},
	{[]api.Taint{mark("k", "", api.NoSchedule), mark("k", "x", api.NoSchedule), mark("", "", "")}, wrongAt(api.ErrTaintKey, 2)},
	{[]api.Taint{mark("b", "", api.NoExecute), mark("a", "", api.NoExecute), mark("b", "x", api.NoExecute)}, wrongAt(api.ErrTaintDup, 2)},
	{manyMarks(17), wrongAt(api.ErrTaints, 0)},
	{append([]api.Taint{{}}, manyMarks(16)...), wrongAt(api.ErrTaints, 0)},
}

var itemFaults = []faulty[api.Item]{
	{items("cpu", -1), wrong(api.ErrQuantZero, "cpu")},
	{items("mem", 1, "cpu", -1, "mem", 1), wrong(api.ErrQuantZero, "cpu")},
	{items("mem", 1, "CPU", -1), wrong(api.ErrQuantName, "CPU")},
	{items("mem", 1, "", 1, "mem", 1), wrong(api.ErrQuantName, "")},
	{items("mem", 1, "cpu", 0, "cpu", 1), wrong(api.ErrQuantOrder, "cpu")},
	{items("mem", 0, "mem", 0), wrong(api.ErrQuantOrder, "mem")},
	{manyItems(17, 1), wrong(api.ErrQuantMany, "")},
	{manyItems(17, 0), wrong(api.ErrQuantMany, "")},
	{append(items("", -1), manyItems(16, 1)...), wrong(api.ErrQuantMany, "")},
}

var tolerationFaults = []faulty[api.Toleration]{
	{[]api.Toleration{{Key: "k", Op: api.Exists}, {Op: "Never"}}, wrongAt(api.ErrOperator, 1)},
	{[]api.Toleration{{Op: api.Equal}, {Op: "Never"}}, wrongAt(api.ErrTaintKey, 0)},
	{[]api.Toleration{{Op: api.Exists}, {Op: api.Exists}, {Op: api.Exists, Value: "v"}}, wrongAt(api.ErrTaintValue, 2)},
	{[]api.Toleration{{Op: api.Exists, Effect: "Never"}}, wrongAt(api.ErrEffect, 0)},
	{manyTolerations(17), wrongAt(api.ErrTolerations, 0)},
	{append([]api.Toleration{{}}, manyTolerations(16)...), wrongAt(api.ErrTolerations, 0)},
}

// refuseNode holds CheckNode, and Add of a cluster that is to stay as it is, to a fault.
func refuseNode(t *testing.T, b both, n api.Node, want *api.Fault) {
	t.Helper()
	if got, err := cluster.CheckNode(n); !sameFault(err, want) || !sameNode(got, api.Node{}) {
		t.Errorf("CheckNode(%.200q ..): %+v, %v, want %v", n.Name, got, err, want)
	}
	if ch, err := b.c.Add(n); !sameFault(err, want) || !sameChange(ch, api.Change{}) {
		t.Errorf("Add(%.200q ..): %+v, %v, want %v", n.Name, ch, err, want)
	}
}

// refusePod is the same of CheckPod and Bind.
func refusePod(t *testing.T, b both, p api.Pod, want *api.Fault) {
	t.Helper()
	if got, err := cluster.CheckPod(p); !sameFault(err, want) || !samePod(got, api.Pod{}) {
		t.Errorf("CheckPod(%.200q ..): %+v, %v, want %v", p.Name, got, err, want)
	}
	for _, node := range []string{"n", "absent", ""} {
		if ch, err := b.c.Bind(p, node); !sameFault(err, want) || !sameChange(ch, api.Change{}) {
			t.Errorf("Bind(%.200q .., %q): %+v, %v, want %v", p.Name, node, ch, err, want)
		}
	}
}

// P6.1, P6.3: each fault of a node, with its Code, At and Name, ahead of those that come later, also of a node whose name is taken.
func TestFaultsOfNodes(t *testing.T) {
	b := made(t)
	b.add(fullNode("n"))
	lastLabels, lastTaints, lastItems := labelFaults[0].list, taintFaults[0].list, itemFaults[0].list
	for _, name := range badNames {
		refuseNode(t, b, api.Node{Name: name}, wrong(api.ErrName, name))
		refuseNode(t, b, api.Node{Name: name, Labels: lastLabels, Taints: lastTaints, Cap: lastItems}, wrong(api.ErrName, name))
	}
	for _, name := range []string{"n", "new"} {
		for _, f := range labelFaults {
			refuseNode(t, b, api.Node{Name: name, Labels: f.list}, f.want)
			refuseNode(t, b, api.Node{Name: name, Labels: f.list, Taints: lastTaints, Cap: lastItems}, f.want)
		}
		for _, f := range taintFaults {
			refuseNode(t, b, api.Node{Name: name, Labels: manyTags(32), Taints: f.list}, f.want)
			refuseNode(t, b, api.Node{Name: name, Taints: f.list, Cap: lastItems}, f.want)
		}
		for _, f := range itemFaults {
			refuseNode(t, b, api.Node{Name: name, Labels: manyTags(32), Taints: manyMarks(16), Cap: f.list}, f.want)
		}
	}
	b.check("nodes with faults")
}

// P6.2, P6.9: each fault of a pod, ahead of those that come later, also of one that is bound already or goes to no node.
func TestFaultsOfPods(t *testing.T) {
	b := made(t)
	b.add(fullNode("n"))
	b.bind(fullPod("p"), "n")
	lastLabels, lastItems, lastTolerations := labelFaults[0].list, itemFaults[0].list, tolerationFaults[0].list
	for _, name := range badNames {
		refusePod(t, b, api.Pod{Name: name}, wrong(api.ErrName, name))
		refusePod(t, b, api.Pod{Name: name, Labels: lastLabels, Needs: lastItems, Tolerations: lastTolerations}, wrong(api.ErrName, name))
	}
	for _, name := range []string{"p", "new"} {
		for _, f := range labelFaults {
			refusePod(t, b, api.Pod{Name: name, Labels: f.list}, f.want)
			refusePod(t, b, api.Pod{Name: name, Labels: f.list, Needs: lastItems, Tolerations: lastTolerations}, f.want)
		}
		for _, f := range itemFaults {
			refusePod(t, b, api.Pod{Name: name, Labels: manyTags(32), Needs: f.list}, f.want)
			refusePod(t, b, api.Pod{Name: name, Needs: f.list, Tolerations: lastTolerations}, f.want)
		}
		for _, f := range tolerationFaults {
			refusePod(t, b, api.Pod{Name: name, Labels: manyTags(32), Needs: manyItems(16, 1), Tolerations: f.list}, f.want)
		}
	}
	b.check("pods with faults")
}

// P6.1: the lists come in their order, all else as it was.
func TestCheckNode(t *testing.T) {
	for _, name := range goodNames {
		for _, cordoned := range []bool{false, true} {
			n := fullNode(name)
			n.Cordoned = cordoned
			want := api.Node{
				Name:     name,
				Labels:   tags("app", "", "disk", "ssd", "zone", "x"),
				Taints:   []api.Taint{mark("disk", "b", api.PreferNoSchedule), mark("gpu", "a", api.NoExecute), mark("gpu", "", api.NoSchedule)},
				Cap:      items("cpu", 40, "mem", 1000),
				Cordoned: cordoned,
			}
			got, err := cluster.CheckNode(n)
			if err != nil || !sameNode(got, want) {
				t.Errorf("CheckNode: %+v, %v, want %+v", got, err, want)
			}
			if again, err := cluster.CheckNode(got); err != nil || !sameNode(again, want) {
				t.Errorf("CheckNode of what it answered: %+v, %v", again, err)
			}
		}
		if got, err := cluster.CheckNode(api.Node{Name: name}); err != nil || !sameNode(got, api.Node{Name: name}) {
			t.Errorf("CheckNode of a name alone: %+v, %v", got, err)
		}
	}
	most := api.Node{Name: "n", Labels: manyTags(32), Taints: manyMarks(16), Cap: manyItems(16, api.MaxAmount)}
	got, err := cluster.CheckNode(most)
	if err != nil || len(got.Labels) != 32 || len(got.Taints) != 16 || len(got.Cap) != 16 || got.Cap[1].Name != "r1" || got.Cap[2] != (api.Item{Name: "r10", N: api.MaxAmount}) {
		t.Errorf("CheckNode of the most that may be: %+v, %v", got, err)
	}
}

// P6.2: likewise of pods; tolerations, terms and texts stay as they are, whatever they are.
func TestCheckPod(t *testing.T) {
	for _, name := range goodNames {
		want := fullPod(name)
		want.Labels = tags("app", "shop", "tier", "web")
		want.Needs = items("cpu", 2, "mem", 10)
		got, err := cluster.CheckPod(fullPod(name))
		if err != nil || !samePod(got, want) {
			t.Errorf("CheckPod: %+v, %v, want %+v", got, err, want)
		}
		if again, err := cluster.CheckPod(got); err != nil || !samePod(again, want) {
			t.Errorf("CheckPod of what it answered: %+v, %v", again, err)
		}
		if got, err := cluster.CheckPod(api.Pod{Name: name}); err != nil || !samePod(got, api.Pod{Name: name}) {
			t.Errorf("CheckPod of a name alone: %+v, %v", got, err)
		}
	}
	most := api.Pod{Name: "p", Labels: manyTags(32), Needs: manyItems(16, api.MaxAmount), Tolerations: manyTolerations(16),
		Require: strings.Repeat("(", 100000), Apart: slices.Repeat([]api.Apart{{Topo: "\xff"}}, 100), Prefer: slices.Repeat([]api.Prefer{{Weight: -1}}, 100), Priority: 1<<63 - 1}
	got, err := cluster.CheckPod(most)
	if err != nil || len(got.Labels) != 32 || len(got.Needs) != 16 || len(got.Tolerations) != 16 || got.Require != most.Require ||
		!slices.Equal(got.Apart, most.Apart) || !slices.Equal(got.Prefer, most.Prefer) || got.Priority != most.Priority {
		t.Errorf("CheckPod of much: %v", err)
	}
}
