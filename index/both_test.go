package index_test

import (
	"strconv"
	"testing"

	"berth/api"
	"berth/index"
)

// both is an index and its model: each change goes to both, and what they answer is held against each other.
type both struct {
	t *testing.T
	x *index.Index
	m *model
}

func made(t *testing.T) both {
	t.Helper()
	x := index.New()
	if x == nil {
		t.Fatal("New is nil")
	}
	return both{t, x, newModel()}
}

// ordinary is an index with several nodes and pods, most of them with several labels, taints and resources.
func ordinary(t *testing.T) both {
	t.Helper()
	b := made(t)
	b.does(nodeAdd(0, api.Node{Name: "a", Labels: tags("disk", "ssd", "rank", "3", "zone", "x"), Taints: marks("disk", "", api.NoExecute, "gpu", "x", api.NoSchedule), Cap: items("cpu", 4, "mem", 8)}))
	b.does(nodeAdd(1, api.Node{Name: "b", Labels: tags("rank", "-5", "zone", "y"), Taints: marks("gpu", "", api.NoExecute, "gpu", "", api.PreferNoSchedule), Cap: items("cpu", 8)}))
	b.does(nodeAdd(2, api.Node{Name: "c", Labels: tags("app", "web", "rank", "x", "zone", "x"), Cap: items("example/gpu", 3, "mem", 4), Cordoned: true}))
	b.does(nodeAdd(63, api.Node{Name: "d", Taints: marks("zone", "x", api.NoSchedule)}))
	b.does(nodeAdd(api.MaxNodes-1, api.Node{Name: "e", Labels: tags("rank", "7", "zone", "")}))
	b.does(podAdd(0, 0, "p", tags("app", "web", "rank", "3")...))
	b.does(podAdd(1, 2, "q", tags("app", "web", "zone", "x")...))
	b.does(podAdd(2, 63, "r", tags("app", "web", "rank", "-5")...))
	b.does(podAdd(64, 1, "s", tags("app", "db", "rank", "x")...))
	b.does(podAdd(api.MaxPods-1, 0, "a"))
	return b
}

func (b both) apply(ch api.Change) api.Errno {
	b.t.Helper()
	got, want := b.x.Apply(ch), b.m.apply(ch)
	if got != want {
		b.t.Fatalf("Apply(%+v) = %d, want %d", ch, got, want)
	}
	return got
}

// does is a change that must fit.
func (b both) does(ch api.Change) {
	b.t.Helper()
	if b.apply(ch) != api.OK {
		b.t.Fatalf("%+v doesn't fit", ch)
	}
}

// refuses is a change that must not fit; nothing has changed behind it.
func (b both) refuses(what string, ch api.Change) {
	b.t.Helper()
	if b.apply(ch) != api.ErrChange {
		b.t.Fatalf("%s: %+v fits", what, ch)
	}
	b.check("behind " + what)
}

func (b both) check(when string) {
	b.t.Helper()
	check(b.t, when, b.x, b.m)
}

func nodeAdd(slot int, n api.Node) api.Change {
	return api.Change{Kind: api.ChangeNodeAdd, Slot: slot, PodSlot: -1, Now: n}
}

func nodeSet(slot int, n api.Node) api.Change {
	return api.Change{Kind: api.ChangeNodeSet, Slot: slot, PodSlot: -1, Now: n}
}

func nodeDel(slot int) api.Change {
	return api.Change{Kind: api.ChangeNodeDel, Slot: slot, PodSlot: -1}
}

func podAdd(slot, node int, name string, list ...api.Label) api.Change {
	return api.Change{Kind: api.ChangePodAdd, Slot: node, PodSlot: slot, Pod: api.Pod{Name: name, Labels: list}}
}

func podDel(slot, node int) api.Change {
	return api.Change{Kind: api.ChangePodDel, Slot: node, PodSlot: slot}
}

// named is a node with no more than a name and labels.
func named(name string, pieces ...string) api.Node {
	return api.Node{Name: name, Labels: tags(pieces...)}
}

// tags is a list of labels: a key and a value by turns.
func tags(pieces ...string) []api.Label {
	var list []api.Label
	for i := 0; i < len(pieces); i += 2 {
		list = append(list, api.Label{Key: pieces[i], Value: pieces[i+1]})
	}
	return list
}

// marks is a list of taints: a key, a value and an effect by turns.
func marks(pieces ...string) []api.Taint {
	var list []api.Taint
	for i := 0; i < len(pieces); i += 3 {
		list = append(list, api.Taint{Key: pieces[i], Value: pieces[i+1], Effect: pieces[i+2]})
	}
	return list
}

// items is a list of amounts: a resource and a number by turns.
func items(pieces ...any) []api.Item {
	var list []api.Item
	for i := 0; i < len(pieces); i += 2 {
		list = append(list, api.Item{Name: pieces[i].(string), N: pieces[i+1].(int)})
	}
	return list
}

// many is so many labels with keys that rise, all with the same value.
func many(n int, value string) []api.Label {
	var list []api.Label
	for i := range n {
		list = append(list, api.Label{Key: "k" + strconv.Itoa(100+i), Value: value})
	}
	return list
}

// answers holds a call's answer to the error that the chapter names.
func answers(t *testing.T, what string, got, want api.Errno) {
	t.Helper()
	if got != want {
		t.Errorf("%s: %d, want %d", what, got, want)
	}
}
