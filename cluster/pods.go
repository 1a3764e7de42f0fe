package cluster

import (
	"berth/api"
	"berth/quant"
)

// Bind: a pod to a node that has room.
func (c *Cluster) Bind(p api.Pod, node string) (api.Change, error) {
	if c == nil {
		return refused(api.ErrNil, "")
	}
	p, err := CheckPod(p)
	if err != nil {
		return api.Change{}, err
	}
	slot, n, err := c.sought(node)
	if err != nil {
		return api.Change{}, err
	}
	if err := c.admits(p, n); err != nil {
		return api.Change{}, err
	}
	podSlot, _ := c.pods.Put(p.Name, bound{p, node})
	c.charge(node, p)
	return podChange(api.ChangePodAdd, slot, podSlot, n, p), nil
}

// Unbind: a bound pod is gone.
func (c *Cluster) Unbind(pod string) (api.Change, error) {
	if c == nil {
		return refused(api.ErrNil, "")
	}
	podSlot, b, there := c.pods.Find(pod)
	if !there {
		return refused(api.ErrNoPod, pod)
	}
	slot, n, _ := c.nodes.Find(b.node)
	c.pods.Drop(pod)
	c.release(b.node, b.pod)
	return podChange(api.ChangePodDel, slot, podSlot, n, b.pod), nil
}

// admits is why a node that is there can't take a pod, or nil.
func (c *Cluster) admits(p api.Pod, n api.Node) error {
	if _, _, there := c.pods.Find(p.Name); there {
		return fault(api.ErrPodTaken, p.Name)
	}
	if c.pods.Len() == api.MaxPods {
		return fault(api.ErrPodFull, p.Name)
	}
	if resource, code := quant.Short(p.Needs, n.Cap, c.used(n.Name)); code != api.OK {
		return fault(api.ErrNoRoom, resource)
	}
	return nil
}

// podChange is a change of pods: the node is behind it what it was ahead of it.
func podChange(kind api.ChangeKind, slot, podSlot int, n api.Node, p api.Pod) api.Change {
	return api.Change{Kind: kind, Slot: slot, PodSlot: podSlot, Was: copyNode(n), Now: copyNode(n), Pod: copyPod(p)}
}
