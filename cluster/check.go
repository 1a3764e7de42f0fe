package cluster

import (
	"berth/api"
	"berth/labels"
	"berth/quant"
	"berth/taint"
)

// CheckNode: the node with its lists in their order, or why it may not be.
func CheckNode(n api.Node) (api.Node, error) {
	if !labels.IsName(n.Name) {
		return api.Node{}, fault(api.ErrName, n.Name)
	}
	has, key, code := labels.Make(n.Labels)
	if code != api.OK {
		return api.Node{}, fault(code, key)
	}
	bears, at, code := taint.Make(n.Taints)
	if code != api.OK {
		return api.Node{}, faultAt(code, at)
	}
	capacity, name, code := quant.Make(n.Cap)
	if code != api.OK {
		return api.Node{}, fault(code, name)
	}
	n.Labels, n.Taints, n.Cap = has, bears, capacity
	return n, nil
}

// CheckPod: the pod with its lists in their order, or why it may not be; its texts are not read.
func CheckPod(p api.Pod) (api.Pod, error) {
	if !labels.IsName(p.Name) {
		return api.Pod{}, fault(api.ErrName, p.Name)
	}
	has, key, code := labels.Make(p.Labels)
	if code != api.OK {
		return api.Pod{}, fault(code, key)
	}
	needs, name, code := quant.Make(p.Needs)
	if code != api.OK {
		return api.Pod{}, fault(code, name)
	}
	if at, code := taint.CheckTolerations(p.Tolerations); code != api.OK {
		return api.Pod{}, faultAt(code, at)
	}
	p.Labels, p.Needs = has, needs
	return copyTerms(p), nil
}

// copyNode is a node that shares no list with n.
func copyNode(n api.Node) api.Node {
	n.Labels = copied(n.Labels)
	n.Taints = copied(n.Taints)
	n.Cap = copied(n.Cap)
	return n
}

// copyPod is a pod that shares no list with p.
func copyPod(p api.Pod) api.Pod {
	p.Labels = copied(p.Labels)
	p.Needs = copied(p.Needs)
	return copyTerms(p)
}

// copyTerms is p with lists of its own where their order is the caller's.
func copyTerms(p api.Pod) api.Pod {
	p.Tolerations = copied(p.Tolerations)
	p.Apart = copied(p.Apart)
	p.Prefer = copied(p.Prefer)
	return p
}

// copied is nil for every empty list, so that equal nodes look alike however they came about.
func copied[T any](list []T) []T { return append([]T(nil), list...) }
