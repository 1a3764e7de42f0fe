package filter

import (
	"iter"
	"slices"

	"berth/api"
	"berth/cluster"
	"berth/labels"
	"berth/mean"
)

// guest is a bound pod with the labels of the node on which it stands.
type guest struct {
	pod  api.Pod
	home []api.Label
}

// guests are all bound pods of a cluster, rising by name.
func guests(c *cluster.Cluster) iter.Seq[guest] {
	return func(yield func(guest) bool) {
		for _, name := range c.Pods() {
			pod, on, _ := c.Pod(name)
			node, _ := c.Node(on)
			if !yield(guest{pod, node.Labels}) {
				return
			}
		}
	}
}

// domain is the label by which a node with these labels is in a domain of the key, if it is in one.
func domain(list []api.Label, key string) (api.Label, bool) {
	value, has := labels.Get(list, key)
	return api.Label{Key: key, Value: value}, has
}

// beside: whether the guest stands in one domain of the key with a node.
func (g guest) beside(node api.Node, key string) bool {
	here, has := domain(node.Labels, key)
	return has && slices.Contains(g.home, here)
}

// minds: whether a term of the guest's selects the pod to be placed. Layer 6 reads no terms: one that doesn't read minds nobody.
func (g guest) minds(term api.Apart, p api.Pod) bool {
	tree, err := selector(term)
	if err != nil {
		return false
	}
	selects, _ := mean.Selects(tree, g.pod, p)
	return selects
}

// barredDomains are those that terms of bound pods bar for the pod to be placed.
func barredDomains(c *cluster.Cluster, p api.Pod) map[api.Label]struct{} {
	all := map[api.Label]struct{}{}
	for g := range guests(c) {
		for _, term := range g.pod.Apart {
			in, has := domain(g.home, term.Topo)
			if _, known := all[in]; has && !known && g.minds(term, p) {
				all[in] = struct{}{}
			}
		}
	}
	return all
}
