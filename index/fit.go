package index

import (
	"slices"

	"berth/api"
	"berth/cluster"
	"berth/labels"
)

// whole is a change as the parts hear of it, and whether it fits. It has lists of its own, and what goes is told by the rows: what the caller says of that isn't looked at.
func (x *Index) whole(ch api.Change) (api.Change, bool) {
	switch ch.Kind {
	case api.ChangeNodeAdd:
		return x.nodeAdd(ch)
	case api.ChangeNodeDel:
		return x.nodeDel(ch)
	case api.ChangeNodeSet:
		return x.nodeSet(ch)
	case api.ChangePodAdd:
		return x.podAdd(ch)
	case api.ChangePodDel:
		return x.podDel(ch)
	}
	return api.Change{}, false
}

func (x *Index) nodeAdd(ch api.Change) (api.Change, bool) {
	_, taken := x.rows.nodes[ch.Slot]
	_, named := x.nodes.names[ch.Now.Name]
	if taken || named || ch.Slot < 0 || ch.Slot >= api.MaxNodes {
		return api.Change{}, false
	}
	now, right := made(ch.Now)
	return nodeChange(ch.Kind, ch.Slot, api.Node{}, now), right
}

func (x *Index) nodeDel(ch api.Change) (api.Change, bool) {
	was, there := x.rows.nodes[ch.Slot]
	return nodeChange(ch.Kind, ch.Slot, was, api.Node{}), there && !x.rows.busy(ch.Slot)
}

func (x *Index) nodeSet(ch api.Change) (api.Change, bool) {
	was, there := x.rows.nodes[ch.Slot]
	if !there || was.Name != ch.Now.Name {
		return api.Change{}, false
	}
	now, right := made(ch.Now)
	return nodeChange(ch.Kind, ch.Slot, was, now), right
}

func (x *Index) podAdd(ch api.Change) (api.Change, bool) {
	_, there := x.rows.nodes[ch.Slot]
	_, taken := x.rows.pods[ch.PodSlot]
	_, named := x.pods.names[ch.Pod.Name]
	if !there || taken || named || ch.PodSlot < 0 || ch.PodSlot >= api.MaxPods {
		return api.Change{}, false
	}
	if _, err := labels.Check(ch.Pod.Labels); err != api.OK || !labels.IsName(ch.Pod.Name) {
		return api.Change{}, false
	}
	p := pod{ch.Pod.Name, slices.Clone(ch.Pod.Labels), ch.Slot}
	return podChange(ch.Kind, ch.Slot, ch.PodSlot, p), true
}

func (x *Index) podDel(ch api.Change) (api.Change, bool) {
	p, there := x.rows.pods[ch.PodSlot]
	return podChange(ch.Kind, ch.Slot, ch.PodSlot, p), there && p.node == ch.Slot
}

// made is the node with lists of its own, and whether it may be and has its lists made already.
func made(n api.Node) (api.Node, bool) {
	own, err := cluster.CheckNode(n)
	return own, err == nil && sameNode(own, n)
}

func nodeChange(kind api.ChangeKind, slot int, was, now api.Node) api.Change {
	return api.Change{Kind: kind, Slot: slot, PodSlot: -1, Was: was, Now: now}
}

func podChange(kind api.ChangeKind, slot, podSlot int, p pod) api.Change {
	return api.Change{Kind: kind, Slot: slot, PodSlot: podSlot, Pod: api.Pod{Name: p.name, Labels: p.labels}}
}
