package cluster

import (
	"berth/api"
	"berth/labels"
	"berth/quant"
	"berth/taint"
)

// Add: a new node.
func (c *Cluster) Add(n api.Node) (api.Change, error) {
	if c == nil {
		return refused(api.ErrNil, "")
	}
	n, err := CheckNode(n)
	if err != nil {
		return api.Change{}, err
	}
	slot, code := c.nodes.Put(n.Name, n)
	if code == api.ErrSlotThere {
		return refused(api.ErrNodeTaken, n.Name)
	}
	if code != api.OK {
		return refused(api.ErrNodeFull, n.Name)
	}
	return api.Change{Kind: api.ChangeNodeAdd, Slot: slot, PodSlot: -1, Now: copyNode(n)}, nil
}

// Remove: a node to which no pod is bound.
func (c *Cluster) Remove(name string) (api.Change, error) {
	slot, was, err := c.sought(name)
	if err != nil {
		return api.Change{}, err
	}
	if len(c.users(name)) > 0 {
		return refused(api.ErrNodeBusy, name)
	}
	c.nodes.Drop(name)
	return api.Change{Kind: api.ChangeNodeDel, Slot: slot, PodSlot: -1, Was: copyNode(was)}, nil
}

// Label: a label's value.
func (c *Cluster) Label(name, key, value string) (api.Change, error) {
	return c.alter(name, func(n *api.Node) error {
		has, code := labels.Put(n.Labels, key, value)
		n.Labels = has
		return unless(code == api.OK, code, key)
	})
}

// Unlabel: a label less.
func (c *Cluster) Unlabel(name, key string) (api.Change, error) {
	return c.alter(name, func(n *api.Node) error {
		has, there := labels.Del(n.Labels, key)
		n.Labels = has
		return unless(there, api.ErrNoTarget, key)
	})
}

// Taint: a taint.
func (c *Cluster) Taint(name string, t api.Taint) (api.Change, error) {
	return c.alter(name, func(n *api.Node) error {
		bears, code := taint.Put(n.Taints, t)
		n.Taints = bears
		return unless(code == api.OK, code, t.Key)
	})
}

// Untaint: a taint less.
func (c *Cluster) Untaint(name, key, effect string) (api.Change, error) {
	return c.alter(name, func(n *api.Node) error {
		bears, there := taint.Del(n.Taints, key, effect)
		n.Taints = bears
		return unless(there, api.ErrNoTarget, key)
	})
}

// Cordon: whether the node takes pods.
func (c *Cluster) Cordon(name string, on bool) (api.Change, error) {
	return c.alter(name, func(n *api.Node) error {
		n.Cordoned = on
		return nil
	})
}

// Resize: another capacity.
func (c *Cluster) Resize(name string, items []api.Item) (api.Change, error) {
	return c.alter(name, func(n *api.Node) error {
		capacity, resource, code := quant.Make(items)
		if code != api.OK {
			return fault(code, resource)
		}
		n.Cap = capacity
		_, resource, code = quant.Sub(capacity, c.used(name))
		return unless(code == api.OK, api.ErrBelow, resource)
	})
}

// alter puts what step makes of a node in the node's place. A step works on a copy of the node, not of its lists: it puts others in their place. Where it answers a fault, the node stays as it was.
func (c *Cluster) alter(name string, step func(n *api.Node) error) (api.Change, error) {
	slot, was, err := c.sought(name)
	if err != nil {
		return api.Change{}, err
	}
	now := was
	if err := step(&now); err != nil {
		return api.Change{}, err
	}
	c.nodes.Set(name, now)
	return api.Change{Kind: api.ChangeNodeSet, Slot: slot, PodSlot: -1, Was: copyNode(was), Now: copyNode(now)}, nil
}
