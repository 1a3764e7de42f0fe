package cluster

import (
	"iter"

	"berth/api"
	"berth/bitset"
	"berth/quant"
)

// Node: a node by its name.
func (c *Cluster) Node(name string) (api.Node, bool) {
	_, n, there := c.nodeTable().Find(name)
	return copyNode(n), there
}

// Slot: a node's slot.
func (c *Cluster) Slot(name string) (int, bool) {
	slot, _, there := c.nodeTable().Find(name)
	return slot, there
}

// NodeAt: the name of the node in a slot.
func (c *Cluster) NodeAt(slot int) (string, bool) {
	name, _, there := c.nodeTable().At(slot)
	return name, there
}

// Nodes: the nodes' names, rising.
func (c *Cluster) Nodes() []string { return c.nodeTable().Names() }

// Slots: the nodes' slots and names, rising by slot.
func (c *Cluster) Slots() iter.Seq2[int, string] { return c.nodeTable().All() }

// Live: the nodes' slots.
func (c *Cluster) Live() *bitset.Set {
	live, _ := bitset.New(api.MaxNodes)
	for slot := range c.Slots() {
		live.Add(slot)
	}
	return live
}

// Pod: a bound pod by its name, and its node.
func (c *Cluster) Pod(name string) (api.Pod, string, bool) {
	_, b, there := c.podTable().Find(name)
	return copyPod(b.pod), b.node, there
}

// PodSlot: a bound pod's slot.
func (c *Cluster) PodSlot(name string) (int, bool) {
	slot, _, there := c.podTable().Find(name)
	return slot, there
}

// PodAt: the name of the bound pod in a slot.
func (c *Cluster) PodAt(slot int) (string, bool) {
	name, _, there := c.podTable().At(slot)
	return name, there
}

// Pods: the bound pods' names, rising.
func (c *Cluster) Pods() []string { return c.podTable().Names() }

// PodSlots: the bound pods' slots and names, rising by slot.
func (c *Cluster) PodSlots() iter.Seq2[int, string] { return c.podTable().All() }

// On: the names of the pods that are bound to a node, rising.
func (c *Cluster) On(node string) []string {
	if c == nil {
		return nil
	}
	return copied(c.users(node))
}

// Used: what the pods on a node need together.
func (c *Cluster) Used(node string) ([]api.Item, bool) {
	if _, there := c.Slot(node); !there {
		return nil, false
	}
	return copied(c.used(node)), true
}

// Room: what a node has left.
func (c *Cluster) Room(node string) ([]api.Item, bool) {
	_, n, there := c.nodeTable().Find(node)
	if !there {
		return nil, false
	}
	room, _, _ := quant.Sub(n.Cap, c.used(node))
	return room, true
}
