package index

import (
	"maps"
	"slices"

	"berth/api"
)

// rows is the part that has the rows themselves, by their slots.
type rows struct {
	nodes map[int]api.Node
	pods  map[int]pod
}

// pod is what a pod's row has, with the slot of its node.
type pod struct {
	name   string
	labels []api.Label
	node   int
}

func (r rows) hear(ch api.Change) {
	switch ch.Kind {
	case api.ChangeNodeAdd, api.ChangeNodeSet:
		r.nodes[ch.Slot] = ch.Now
	case api.ChangeNodeDel:
		delete(r.nodes, ch.Slot)
	case api.ChangePodAdd:
		r.pods[ch.PodSlot] = pod{ch.Pod.Name, ch.Pod.Labels, ch.Slot}
	case api.ChangePodDel:
		delete(r.pods, ch.PodSlot)
	}
}

// busy: does a pod stand on the node in this slot?
func (r rows) busy(slot int) bool {
	for _, p := range r.pods {
		if p.node == slot {
			return true
		}
	}
	return false
}

// Same: do both hold the same?
func Same(a, b *Index) bool {
	x, y := a.kept().rows, b.kept().rows
	return maps.EqualFunc(x.nodes, y.nodes, sameNode) && maps.EqualFunc(x.pods, y.pods, samePod)
}

func sameNode(a, b api.Node) bool {
	return a.Name == b.Name && a.Cordoned == b.Cordoned && slices.Equal(a.Labels, b.Labels) &&
		slices.Equal(a.Taints, b.Taints) && slices.Equal(a.Cap, b.Cap)
}

func samePod(a, b pod) bool {
	return a.name == b.name && a.node == b.node && slices.Equal(a.labels, b.labels)
}
