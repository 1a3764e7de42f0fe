package domain

import (
	"iter"
	"maps"
	"slices"

	"berth/api"
	"berth/bitset"
	"berth/compare"
	"berth/labels"
)

// Keys: the keys that some node has, rising.
func (d *Domains) Keys() []string { return slices.Sorted(maps.Keys(d.kept().areas)) }

// Values: a key's values with their number of nodes, rising.
func (d *Domains) Values(key string) iter.Seq2[string, int] {
	return d.walk(key, func(a area) int { return a.nodes.Count() })
}

// Of: the value of a key at the node in a slot.
func (d *Domains) Of(key string, slot int) (string, bool) {
	return labels.Get(d.kept().nodes[slot].labels, key)
}

// Nodes: the slots of a domain's nodes.
func (d *Domains) Nodes(key, value string) *bitset.Set {
	out := noNodes()
	out.OrWith(d.kept().areas[key][value].nodes)
	return out
}

// Pods: the slots of the pods on a domain's nodes.
func (d *Domains) Pods(key, value string) *bitset.Set {
	out := noPods()
	out.OrWith(d.kept().areas[key][value].pods)
	return out
}

// Count: how many pods of a domain have this label.
func (d *Domains) Count(key, value, podKey, podValue string) int {
	in, has := api.Label{Key: key, Value: value}, api.Label{Key: podKey, Value: podValue}
	return d.kept().counts[holding{in, has}]
}

// Near: the nodes in a domain with one of these pods.
func (d *Domains) Near(key string, pods *bitset.Set) *bitset.Set {
	return d.nodesWhere(key, func(a area) bool { return bitset.Meets(a.pods, pods) })
}

// Tally: a key's values with how many of these pods stand there, rising.
func (d *Domains) Tally(key string, pods *bitset.Set) iter.Seq2[string, int] {
	return d.walk(key, func(a area) int { return a.among(pods) })
}

// Ranked: the nodes in a domain whose number of these pods stands so to n.
func (d *Domains) Ranked(key string, pods *bitset.Set, cmp api.Cmp, n int) *bitset.Set {
	return d.nodesWhere(key, func(a area) bool { return compare.Stands(a.among(pods), cmp, n) })
}

// Same: do both hold the same nodes and pods?
func Same(a, b *Domains) bool {
	x, y := a.kept(), b.kept()
	return maps.EqualFunc(x.nodes, y.nodes, sameNode) && maps.EqualFunc(x.pods, y.pods, samePod)
}

// sameNode leaves out the pods on the nodes: they are told by the pods' own nodes.
func sameNode(a, b node) bool { return slices.Equal(a.labels, b.labels) }

func samePod(a, b pod) bool { return a.node == b.node && slices.Equal(a.labels, b.labels) }

// kept is what is kept, also of a nil Domains, whose maps are nil and are read as empty ones. It is not to be written into.
func (d *Domains) kept() Domains {
	if d == nil {
		return Domains{}
	}
	return *d
}

// walk gives a key's values, rising, each with the number that is told of its domain. All is reckoned ahead of the walk, since what is kept may be changed later, and what told looks at too.
func (d *Domains) walk(key string, told func(area) int) iter.Seq2[string, int] {
	areas := d.kept().areas[key]
	values := slices.Sorted(maps.Keys(areas))
	numbers := make([]int, len(values))
	for i, value := range values {
		numbers[i] = told(areas[value])
	}
	return func(yield func(string, int) bool) {
		for i, value := range values {
			if !yield(value, numbers[i]) {
				return
			}
		}
	}
}

// nodesWhere is the nodes of those domains of a key that fit.
func (d *Domains) nodesWhere(key string, fit func(area) bool) *bitset.Set {
	out := noNodes()
	for _, a := range d.kept().areas[key] {
		if fit(a) {
			out.OrWith(a.nodes)
		}
	}
	return out
}

// among is how many of these pods stand in the domain. It goes out from the domain's own pods, so that members which are no pods kept drop out, and a great set costs no more than a small one.
func (a area) among(pods *bitset.Set) int {
	these := a.pods.Clone()
	these.AndWith(pods)
	return these.Count()
}
