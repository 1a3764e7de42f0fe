package domain_test

import (
	"strconv"
	"testing"

	"berth/api"
	"berth/domain"
)

// both is a Domains and its model: each change goes to both, and what they answer is held against each other.
type both struct {
	t *testing.T
	d *domain.Domains
	m *model
}

func made(t *testing.T) both {
	t.Helper()
	d := domain.New()
	if d == nil {
		t.Fatal("New is nil")
	}
	return both{t, d, newModel()}
}

// example is what the chapter's examples begin with.
func example(t *testing.T) both {
	t.Helper()
	b := made(t)
	b.addNode(0, tags("zone", "a")...)
	b.addNode(1, tags("zone", "b")...)
	b.addNode(2, tags("disk", "ssd", "zone", "a")...)
	b.addNode(3)
	b.addPod(0, 0, tags("app", "web")...)
	b.addPod(1, 2, tags("app", "web")...)
	b.addPod(2, 3, tags("app", "web")...)
	b.addPod(3, 1, tags("app", "db")...)
	return b
}

func (b both) apply(ch api.Change) api.Errno {
	b.t.Helper()
	got, want := b.d.Apply(ch), b.m.apply(ch)
	if got != want {
		b.t.Fatalf("Apply(%+v) = %d, want %d", ch, got, want)
	}
	return got
}

func (b both) check(when string) {
	b.t.Helper()
	check(b.t, when, b.d, b.m)
}

func (b both) addNode(slot int, list ...api.Label) api.Errno {
	b.t.Helper()
	return b.apply(nodeAdd(slot, list...))
}

func (b both) setNode(slot int, list ...api.Label) api.Errno {
	b.t.Helper()
	return b.apply(nodeSet(slot, list...))
}

func (b both) dropNode(slot int) api.Errno {
	b.t.Helper()
	return b.apply(nodeDel(slot))
}

func (b both) addPod(slot, node int, list ...api.Label) api.Errno {
	b.t.Helper()
	return b.apply(podAdd(slot, node, list...))
}

func (b both) dropPod(slot, node int) api.Errno {
	b.t.Helper()
	return b.apply(podDel(slot, node))
}

func nodeAdd(slot int, list ...api.Label) api.Change {
	return api.Change{Kind: api.ChangeNodeAdd, Slot: slot, PodSlot: -1, Now: api.Node{Name: "n", Labels: list}}
}

func nodeSet(slot int, list ...api.Label) api.Change {
	return api.Change{Kind: api.ChangeNodeSet, Slot: slot, PodSlot: -1, Now: api.Node{Name: "n", Labels: list}}
}

func nodeDel(slot int) api.Change {
	return api.Change{Kind: api.ChangeNodeDel, Slot: slot, PodSlot: -1}
}

func podAdd(slot, node int, list ...api.Label) api.Change {
	return api.Change{Kind: api.ChangePodAdd, Slot: node, PodSlot: slot, Pod: api.Pod{Name: "p", Labels: list}}
}

func podDel(slot, node int) api.Change {
	return api.Change{Kind: api.ChangePodDel, Slot: node, PodSlot: slot}
}

// tags is a list of labels: a key and a value by turns.
func tags(pieces ...string) []api.Label {
	var list []api.Label
	for i := 0; i < len(pieces); i += 2 {
		list = append(list, api.Label{Key: pieces[i], Value: pieces[i+1]})
	}
	return list
}

// many is so many labels with keys that rise, all with the same value.
func many(n int, value string) []api.Label {
	var list []api.Label
	for i := range n {
		list = append(list, api.Label{Key: "k" + strconv.Itoa(100+i), Value: value})
	}
	return list
}

// answers holds a call's answer to the error that the chapter names.
func answers(t *testing.T, what string, got, want api.Errno) {
	t.Helper()
	if got != want {
		t.Errorf("%s: %d, want %d", what, got, want)
	}
}
