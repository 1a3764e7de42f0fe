package vm_test

import (
	"slices"
	"testing"

	"berth/api"
	"berth/audit"
	"berth/bitset"
	"berth/cluster"
	"berth/index"
	"berth/vm"
)

// world is the rows of an index: nodes and bound pods with their slots, and for each pod the place of its node.
type world struct {
	nodes    []api.Node
	slots    []int
	pods     []api.Pod
	podSlots []int
	homes    []int
}

// worldOf is the rows of a cluster's index.
func worldOf(c *cluster.Cluster) world {
	var w world
	for slot, name := range c.Slots() {
		n, _ := c.Node(name)
		w.nodes, w.slots = append(w.nodes, n), append(w.slots, slot)
	}
	for slot, name := range c.PodSlots() {
		pod, on, _ := c.Pod(name)
		at, _ := c.Slot(on)
		w.pods, w.podSlots, w.homes = append(w.pods, pod), append(w.podSlots, slot), append(w.homes, slices.Index(w.slots, at))
	}
	return w
}

// index is one with the world's rows, put there one by one.
func (w world) index(t *testing.T) *index.Index {
	t.Helper()
	x := index.New()
	for i, n := range w.nodes {
		made, err := cluster.CheckNode(n)
		if e := x.Apply(api.Change{Kind: api.ChangeNodeAdd, Slot: w.slots[i], PodSlot: -1, Now: made}); err != nil || e != api.OK {
			t.Fatal(n, err, e)
		}
	}
	for i, pod := range w.pods {
		made, err := cluster.CheckPod(pod)
		if e := x.Apply(api.Change{Kind: api.ChangePodAdd, Slot: w.slots[w.homes[i]], PodSlot: w.podSlots[i], Pod: made}); err != nil || e != api.OK {
			t.Fatal(pod, err, e)
		}
	}
	return x
}

// bench is an index with its rows.
type bench struct {
	w world
	x *index.Index
}

// refused holds a run of a program that may not run.
func refused(t *testing.T, p api.Program, x *index.Index, pod api.Pod) {
	t.Helper()
	if set, stat, e := vm.Run(p, x, pod); set != nil || stat != (api.Stat{}) || e != api.ErrRefused {
		t.Fatalf("%s: %v, %v, %d, want it refused", told(p), set, stat, e)
	}
}

// try holds P22.1 to P22.3 for any program: it is refused just where the audit does so, else the model answers the same and takes the same. It hands on the answer.
func (b bench) try(t *testing.T, p api.Program, pod api.Pod) ([]int, api.Stat, api.Errno) {
	t.Helper()
	shape, err := audit.Program(p)
	if err != nil {
		refused(t, p, b.x, pod)
		return nil, api.Stat{}, api.ErrRefused
	}
	m := &model{p: p, w: b.w, pod: pod}
	want, took := m.run()
	set, stat, e := vm.Run(p, b.x, pod)
	if e != api.OK || set == nil || set.Size() != api.MaxNodes || !slices.Equal(set.Members(), want) || stat != took {
		t.Fatalf("%s for %+v:\n%v of %d, %+v, %d, want %v, %+v", told(p), pod, set.Members(), set.Size(), stat, e, want, took)
	}
	if stat.Steps > len(p.Code) || stat.Depth > p.Depth || stat.Depth > shape.Depth || !bitset.Subset(set, b.x.Live(api.OfNode)) {
		t.Fatalf("%s: %+v, %v", told(p), stat, set.Members())
	}
	return want, stat, e
}

// wants holds a program against the model and against the slots that are written down here.
func (b bench) wants(t *testing.T, pod api.Pod, source string, slots ...int) {
	t.Helper()
	got, _, e := b.try(t, assemble(source), pod)
	if e != api.OK || !slices.Equal(got, slots) {
		t.Errorf("%s: %v, %d, want %v", source, got, e, slots)
	}
}

// takes holds a program against the model and against the steps and the depth that are written down here.
func (b bench) takes(t *testing.T, pod api.Pod, source string, steps, depth int) {
	t.Helper()
	if _, stat, e := b.try(t, assemble(source), pod); e != api.OK || stat != (api.Stat{Steps: steps, Depth: depth}) {
		t.Errorf("%s: %+v, %d, want %d steps, depth %d", source, stat, e, steps, depth)
	}
}

func tags(words ...string) []api.Label {
	var out []api.Label
	for i := 0; i+1 < len(words); i += 2 {
		out = append(out, api.Label{Key: words[i], Value: words[i+1]})
	}
	return out
}

const last, lastPod = api.MaxNodes - 1, api.MaxPods - 1

// ordinary is an index in whose rows most things differ: each pod stands on a node of its own, and the key host tells the nodes apart, so that near host of pods tells which pods they are.
//
// zone x has two nodes, 0 and 1, and the pods r and p; zone y the node 2 and the pod s; the zone of the empty value the last node.
func ordinary(t *testing.T) bench {
	t.Helper()
	taint := func(key, value, effect string) api.Taint {
		return api.Taint{Key: key, Value: value, Effect: effect}
	}
	w := world{
		nodes: []api.Node{
			{Name: "a", Labels: tags("host", "a", "rank", "3", "zone", "x"), Cap: []api.Item{{Name: "cpu", N: 4}}, Taints: []api.Taint{taint("gpu", "x", api.NoSchedule)}},
			{Name: "b", Labels: tags("disk", "ssd", "host", "b", "rank", "-5", "zone", "x"), Cap: []api.Item{{Name: "cpu", N: 8}, {Name: "mem", N: 1}}, Taints: []api.Taint{taint("gpu", "", api.NoExecute)}},
			{Name: "c", Labels: tags("host", "c", "rank", "07", "zone", "y"), Cordoned: true, Taints: []api.Taint{taint("zone", "x", api.NoSchedule)}},
			{Name: "d", Labels: tags("host", "d", "rank", "3"), Taints: []api.Taint{taint("disk", "", api.PreferNoSchedule), taint("gpu", "", api.NoSchedule)}},
			{Name: "e", Labels: tags("host", "e", "rank", "999999999999999", "zone", ""), Cap: []api.Item{{Name: "mem", N: 5}}},
		},
		slots: []int{0, 1, 2, 63, last},
		pods: []api.Pod{
			{Name: "p", Labels: tags("app", "web", "rank", "1")},
			{Name: "q", Labels: tags("app", "db", "rank", "3")},
			{Name: "r", Labels: tags("app", "web", "rank", "x", "zone", "y")},
			{Name: "s"},
		},
		podSlots: []int{0, 5, 64, lastPod},
		homes:    []int{1, 3, 0, 2},
	}
	return bench{w, w.index(t)}
}

// podsAt are the slots of the nodes on which the pods p, q, r and s of the ordinary index stand, rising.
func podsAt(names string) []int {
	var out []int
	for _, name := range names {
		out = append(out, map[rune]int{'p': 1, 'q': 63, 'r': 0, 's': 2}[name])
	}
	slices.Sort(out)
	return out
}

// wantsPods holds the pods that a piece of code leaves on the stack of the ordinary index against those that are written down here.
func (b bench) wantsPods(t *testing.T, pod api.Pod, source, names string) {
	t.Helper()
	b.wants(t, pod, source+"; near host; end", podsAt(names)...)
}

// someone is the pod to be placed in most tests.
func someone() api.Pod {
	return api.Pod{Name: "new", Labels: tags("app", "web", "odd", "07", "rank", "3", "zone", "x"), Tolerations: []api.Toleration{{Key: "gpu", Op: api.Exists}}}
}
