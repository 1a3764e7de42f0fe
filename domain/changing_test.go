package domain_test

import (
	"fmt"
	"math"
	"slices"
	"testing"

	"berth/api"
)

// edges is a Domains with nodes and pods in their first and last slots.
func edges(t *testing.T) both {
	t.Helper()
	b := made(t)
	for _, slot := range []int{0, 63, 64, api.MaxNodes - 1} {
		answers(t, "a node", b.addNode(slot, tags("zone", []string{"a", "b"}[slot%2])...), api.OK)
	}
	for i, slot := range []int{0, 63, 64, api.MaxPods - 1} {
		answers(t, "a pod", b.addPod(slot, []int{api.MaxNodes - 1, 0, 0, 63}[i], tags("app", "web")...), api.OK)
	}
	b.check("edges")
	return b
}

// refused holds a change to ErrDomain, and to having changed nothing.
func refused(b both, what string, ch api.Change) {
	b.t.Helper()
	answers(b.t, fmt.Sprintf("%s: %+v", what, ch), b.apply(ch), api.ErrDomain)
	b.check("behind " + what)
}

// P9.2: the first and the last slots come, are set and go.
func TestEdges(t *testing.T) {
	b := edges(t)
	for _, slot := range []int{0, 63, 64, api.MaxNodes - 1} {
		answers(t, "set", b.setNode(slot, tags("disk", "x", "zone", "c")...), api.OK)
		b.check("set")
	}
	for i, slot := range []int{0, 63, 64, api.MaxPods - 1} {
		answers(t, "a pod less", b.dropPod(slot, []int{api.MaxNodes - 1, 0, 0, 63}[i]), api.OK)
		b.check("a pod less")
	}
	for _, slot := range []int{0, 63, 64, api.MaxNodes - 1} {
		answers(t, "a node less", b.dropNode(slot), api.OK)
		b.check("a node less")
	}
	if len(b.d.Keys()) != 0 {
		t.Errorf("emptied: %q", b.d.Keys())
	}
}

// P9.2: no change with a Slot that isn't from 0 to MaxNodes - 1 fits, of whatever kind, and none of pods with such a PodSlot.
func TestSlotsOutside(t *testing.T) {
	b := edges(t)
	for _, slot := range slices.Concat(oddInts, []int{1 << 9, 1<<16 + 1, 1<<32 + 1, 1<<63 - 64}) {
		if slot >= 0 && slot < api.MaxNodes {
			continue
		}
		for kind := api.ChangeKind(0); kind <= 6; kind++ {
			answers(t, "Slot", b.apply(api.Change{Kind: kind, Slot: slot, PodSlot: 5}), api.ErrDomain)
			answers(t, "Slot of a pod that is kept", b.apply(api.Change{Kind: kind, Slot: slot, PodSlot: 63}), api.ErrDomain)
		}
	}
	for _, slot := range slices.Concat(oddInts, []int{1 << 11, 1<<32 + 63}) {
		if slot >= 0 && slot < api.MaxPods {
			continue
		}
		answers(t, "PodSlot", b.addPod(slot, 0), api.ErrDomain)
		answers(t, "PodSlot", b.dropPod(slot, 0), api.ErrDomain)
	}
	b.check("behind slots that are none")
}

// P9.2: a kind that is none fits nowhere.
func TestOtherKinds(t *testing.T) {
	b := edges(t)
	for _, kind := range []api.ChangeKind{0, 6, 7, -1, -5, 1 << 32, 1<<32 + 1, math.MinInt, math.MaxInt} {
		for _, slot := range []int{0, 1} {
			for _, podSlot := range []int{63, 1} {
				refused(b, "a kind", api.Change{Kind: kind, Slot: slot, PodSlot: podSlot})
			}
		}
	}
}

// P9.2: a node in a slot that has one, and changes of nodes and pods that aren't kept.
func TestNotKept(t *testing.T) {
	b := edges(t)
	refused(b, "a node's slot is taken", nodeAdd(0, tags("zone", "z")...))
	refused(b, "the last node's slot is taken", nodeAdd(api.MaxNodes-1))
	refused(b, "no node to go", nodeDel(1))
	refused(b, "no node to set", nodeSet(1, tags("zone", "z")...))
	refused(b, "no node for a pod", podAdd(1, 1))
	refused(b, "a pod's slot is taken", podAdd(0, 0, tags("app", "db")...))
	refused(b, "a pod's slot is taken on its own node", podAdd(63, 0))
	refused(b, "the last pod's slot is taken", podAdd(api.MaxPods-1, 63))
	refused(b, "no pod to go", podDel(1, 0))
	refused(b, "a pod on another node", podDel(63, 63))
	refused(b, "a pod on a node that isn't kept", podDel(63, 1))
	answers(t, "a pod that goes", b.dropPod(63, 0), api.OK)
	refused(b, "a pod that has gone", podDel(63, 0))
	answers(t, "a node that goes", b.dropNode(64), api.OK)
	refused(b, "a node that has gone", nodeDel(64))
	refused(b, "a node that has gone is set", nodeSet(64))
	refused(b, "a pod on a node that has gone", podAdd(5, 64))
}

// P9.2: a node on which a pod stands doesn't go; it goes behind its last pod, and may come again without them.
func TestNodeWithPods(t *testing.T) {
	b := made(t)
	b.addNode(4, tags("zone", "a")...)
	b.addNode(5)
	b.addPod(0, 4, tags("app", "web")...)
	b.addPod(api.MaxPods-1, 4)
	b.addPod(9, 5, tags("app", "web")...)
	refused(b, "two pods", nodeDel(4))
	refused(b, "a pod on a node without labels", nodeDel(5))
	b.dropPod(0, 4)
	refused(b, "the last slot's pod", nodeDel(4))
	b.setNode(4, tags("zone", "b")...)
	refused(b, "set in between", nodeDel(4))
	b.setNode(4)
	refused(b, "without labels", nodeDel(4))
	b.dropPod(api.MaxPods-1, 4)
	answers(t, "no pod any more", b.dropNode(4), api.OK)
	b.check("gone")
	answers(t, "it comes again", b.addNode(4, tags("zone", "a")...), api.OK)
	b.check("come again")
	is(t, "Pods", b.d.Pods("zone", "a"), api.MaxPods, nil)
}

// wrongLists are lists that are no label lists, each by another error of layer 3.
func wrongLists() map[string][]api.Label {
	return map[string][]api.Label{
		"no key":                      tags("", "x"),
		"a key that is none":          tags("_", "x"),
		"a value that is none":        tags("zone", "-"),
		"a value that is none, later": tags("app", "x", "zone", "x "),
		"a key twice":                 tags("zone", "x", "zone", "x"),
		"a list that falls":           tags("zone", "x", "app", "x"),
		"too many":                    many(api.MaxLabels+1, "x"),
		"too many, and wrong":         slices.Repeat(tags("", ""), 40),
	}
}

// P9.2: lists that are no label lists; the greatest that is one; the empty one, nil or not.
func TestLabelLists(t *testing.T) {
	b := edges(t)
	for what, list := range wrongLists() {
		refused(b, "a node with "+what, nodeAdd(1, list...))
		refused(b, "a node set to "+what, nodeSet(0, list...))
		refused(b, "a pod with "+what, podAdd(1, 0, list...))
	}
	for _, list := range [][]api.Label{many(api.MaxLabels, "x"), nil, {}, tags("A", "", "a", "-5", "example.org/a", "x")} {
		answers(t, "a node", b.addNode(1, list...), api.OK)
		answers(t, "a node set", b.setNode(0, list...), api.OK)
		answers(t, "a pod", b.addPod(1, 0, list...), api.OK)
		b.check("lists that are right")
		answers(t, "the pod goes", b.dropPod(1, 0), api.OK)
		answers(t, "the node goes", b.dropNode(1), api.OK)
	}
	b.check("as before")
}

// P9.2: what the table doesn't name isn't looked at: a change full of wrong things elsewhere fits, and does the same.
func TestNotLookedAt(t *testing.T) {
	wrong := tags("zone", "q", "zone", "q", "", "")
	bad := api.Node{Name: "", Labels: wrong, Taints: []api.Taint{{}}, Cap: []api.Item{{Name: "", N: -1}}, Cordoned: true}
	worse := api.Pod{Name: "_", Labels: wrong, Needs: []api.Item{{N: -1}}, Require: "(", Priority: math.MinInt}
	node := func(list []api.Label) api.Node { n := bad; n.Labels = list; return n }
	plain, odd := made(t), made(t)
	for _, x := range []struct{ plain, odd api.Change }{
		{nodeAdd(0, tags("zone", "a")...), api.Change{Kind: api.ChangeNodeAdd, PodSlot: -99, Was: bad, Now: node(tags("zone", "a")), Pod: worse}},
		{nodeAdd(2), api.Change{Kind: api.ChangeNodeAdd, Slot: 2, PodSlot: math.MaxInt, Was: bad, Now: node(nil), Pod: worse}},
		{podAdd(0, 0, tags("app", "x")...), api.Change{Kind: api.ChangePodAdd, Was: bad, Now: bad, Pod: api.Pod{Labels: tags("app", "x"), Require: "("}}},
		{podAdd(1, 2, tags("app", "x")...), api.Change{Kind: api.ChangePodAdd, Slot: 2, PodSlot: 1, Was: bad, Now: bad, Pod: api.Pod{Name: "p", Labels: tags("app", "x")}}},
		{nodeSet(0, tags("zone", "b")...), api.Change{Kind: api.ChangeNodeSet, PodSlot: 0, Was: bad, Now: node(tags("zone", "b")), Pod: worse}},
		{nodeSet(0, tags("zone", "c")...), api.Change{Kind: api.ChangeNodeSet, PodSlot: api.MaxPods, Was: node(tags("zone", "a")), Now: node(tags("zone", "c")), Pod: worse}},
		{podDel(1, 2), api.Change{Kind: api.ChangePodDel, Slot: 2, PodSlot: 1, Was: bad, Now: bad, Pod: worse}},
		{nodeDel(2), api.Change{Kind: api.ChangeNodeDel, Slot: 2, PodSlot: 0, Was: bad, Now: bad, Pod: worse}},
		{podDel(0, 0), api.Change{Kind: api.ChangePodDel, Was: bad, Now: bad, Pod: worse}},
		{nodeDel(0), api.Change{Kind: api.ChangeNodeDel, PodSlot: math.MinInt, Was: bad, Now: bad, Pod: worse}},
	} {
		answers(t, "the plain change", plain.apply(x.plain), api.OK)
		answers(t, "the odd change", odd.apply(x.odd), api.OK)
		same(t, "plain and odd", plain.d, odd.d, true)
		odd.check("behind an odd change")
	}
}

// P9.2, P9.5: ChangeNodeSet moves a node with its pods from domain to domain, takes keys away and brings them; what stays stays.
func TestNodeSetMovesPods(t *testing.T) {
	b := made(t)
	b.addNode(0, tags("disk", "ssd", "zone", "a")...)
	b.addNode(1, tags("zone", "a")...)
	b.addNode(2, tags("zone", "b")...)
	b.addPod(0, 0, tags("app", "web", "tier", "x")...)
	b.addPod(1, 0, tags("app", "web")...)
	b.addPod(2, 1, tags("app", "web")...)
	b.addPod(3, 2, tags("app", "db")...)
	for i, list := range [][]api.Label{
		tags("disk", "ssd", "zone", "b"),
		tags("zone", "b"),
		tags("disk", "hdd", "rack", "1", "zone", "b"),
		tags("disk", "hdd", "rack", "1", "zone", "b"),
		tags("a", "a", "zone", "c"),
		nil,
		nil,
		many(api.MaxLabels, "x"),
		many(api.MaxLabels, "y"),
		tags("disk", "ssd", "zone", "a"),
	} {
		answers(t, "set", b.setNode(0, list...), api.OK)
		b.check(fmt.Sprint("set ", i))
	}
	is(t, "at the end", b.d.Pods("zone", "a"), api.MaxPods, []int{0, 1, 2})
	if n := b.d.Count("zone", "a", "app", "web"); n != 3 {
		t.Errorf("Count at the end: %d", n)
	}
}

// P9.4, P9.5: with the last node of a domain the domain goes, with the last domain of a key the key; with the last pod that has a label its count.
func TestLastOnesGo(t *testing.T) {
	b := made(t)
	b.addNode(0, tags("disk", "ssd", "zone", "a")...)
	b.addNode(1, tags("zone", "a")...)
	b.addNode(2, tags("zone", "b")...)
	b.addPod(0, 0, tags("app", "web")...)
	b.addPod(1, 1, tags("app", "web")...)
	texts := func(want ...string) {
		t.Helper()
		if got := b.d.Keys(); !slices.Equal(got, want) {
			t.Errorf("Keys: %q, want %q", got, want)
		}
	}
	b.setNode(0, tags("zone", "a")...)
	texts("zone")
	b.setNode(2, tags("zone", "a")...)
	gives(t, "one domain", b.d.Values("zone"), []step{{"a", 3}})
	b.dropPod(1, 1)
	b.dropNode(1)
	gives(t, "a node less", b.d.Values("zone"), []step{{"a", 2}})
	if n := b.d.Count("zone", "a", "app", "web"); n != 1 {
		t.Errorf("Count: %d", n)
	}
	b.dropPod(0, 0)
	if n := b.d.Count("zone", "a", "app", "web"); n != 0 {
		t.Errorf("Count behind the last pod: %d", n)
	}
	b.dropNode(2)
	b.dropNode(0)
	texts()
	gives(t, "no domain", b.d.Values("zone"), nil)
	b.check("emptied")
	b.addNode(0, tags("zone", "a")...)
	b.check("come again")
}
