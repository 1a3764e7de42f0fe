package index

import (
	"cmp"
	"slices"

	"berth/api"
	"berth/bitset"
	"berth/compare"
	"berth/taint"
)

// Live: all nodes (OfNode), or all bound pods (OfIt).
func (x *Index) Live(of api.Side) *bitset.Set { return x.side(of).labels.Live() }

// Label: those whose label has one of these values.
func (x *Index) Label(of api.Side, key string, values []string) *bitset.Set {
	return x.side(of).labels.In(key, values)
}

// Has: those that have a label with one of these keys.
func (x *Index) Has(of api.Side, keys []string) *bitset.Set {
	s := x.side(of)
	out := s.none()
	for _, key := range once(keys) {
		out.OrWith(s.labels.Has(key))
	}
	return out
}

// Name: those with one of these names.
func (x *Index) Name(of api.Side, names []string) *bitset.Set {
	s := x.side(of)
	out := s.none()
	for _, name := range names {
		if slot, there := s.names[name]; there {
			out.Add(slot)
		}
	}
	return out
}

// Number: those whose label is a number that stands so to n.
func (x *Index) Number(of api.Side, key string, cmp api.Cmp, n int) *bitset.Set {
	return x.side(of).numbers.Find(key, cmp, n)
}

// NumberIn: those whose label is one of these numbers.
func (x *Index) NumberIn(of api.Side, key string, ns []int) *bitset.Set {
	return x.side(of).numbers.Among(key, ns)
}

// Cap: the nodes whose capacity stands so to n.
func (x *Index) Cap(resource string, cmp api.Cmp, n int) *bitset.Set {
	out := x.kept().caps.amounts.Find(resource, cmp, n)
	if compare.Stands(0, cmp, n) {
		out.OrWith(x.lacking(resource))
	}
	return out
}

// CapIn: the nodes whose capacity is one of these.
func (x *Index) CapIn(resource string, ns []int) *bitset.Set {
	out := x.kept().caps.amounts.Among(resource, ns)
	if slices.Contains(ns, 0) {
		out.OrWith(x.lacking(resource))
	}
	return out
}

// lacking is the nodes whose capacity of a resource is 0.
func (x *Index) lacking(resource string) *bitset.Set {
	out := x.Live(api.OfNode)
	out.AndNotWith(x.kept().caps.amounts.Has(resource))
	return out
}

// Tainted: the nodes that have a taint with one of these keys.
func (x *Index) Tainted(keys []string) *bitset.Set {
	out, kept := noNodes(), x.kept().taints
	for _, key := range once(keys) {
		for _, nodes := range kept[key] {
			out.OrWith(nodes)
		}
	}
	return out
}

// Tolerated: the nodes whose taints of this effect are all tolerated.
func (x *Index) Tolerated(os []api.Toleration, effect string) *bitset.Set {
	out := x.Live(api.OfNode)
	for _, alike := range x.kept().taints {
		for t, nodes := range alike {
			if !taint.Tolerated([]api.Taint{t}, os, effect) {
				out.AndNotWith(nodes)
			}
		}
	}
	return out
}

// Open: the nodes that aren't cordoned.
func (x *Index) Open() *bitset.Set { return x.kept().open.nodes.Clone() }

// Near: the nodes in a domain with one of these pods.
func (x *Index) Near(topo string, pods *bitset.Set) *bitset.Set {
	return x.kept().areas.domains.Near(topo, pods)
}

// Count: the nodes in a domain whose number of these pods stands so to n.
func (x *Index) Count(topo string, pods *bitset.Set, cmp api.Cmp, n int) *bitset.Set {
	return x.kept().areas.domains.Ranked(topo, pods, cmp, n)
}

// CountIn: the nodes in a domain whose number of these pods is one of these.
func (x *Index) CountIn(topo string, pods *bitset.Set, ns []int) *bitset.Set {
	out, domains, rising := noNodes(), x.kept().areas.domains, once(ns)
	for value, n := range domains.Tally(topo, pods) {
		if _, one := slices.BinarySearch(rising, n); one {
			out.OrWith(domains.Nodes(topo, value))
		}
	}
	return out
}

// With: how many pods with this label are bound in the domain of the node in a slot.
func (x *Index) With(topo string, slot int, key, value string) (int, bool) {
	domains := x.kept().areas.domains
	in, has := domains.Of(topo, slot)
	if !has {
		return 0, false
	}
	return domains.Count(topo, in, key, value), true
}

// kept is the index itself, or one without rows in the place of a nil one, so that the bitmaps have the same universes.
func (x *Index) kept() *Index {
	if x == nil {
		return New()
	}
	return x
}

// side is what is kept of the rows of a side; of one that has no rows it is the zero side.
func (x *Index) side(of api.Side) side {
	switch of {
	case api.OfNode:
		return x.kept().nodes
	case api.OfIt:
		return x.kept().pods
	}
	return side{}
}

// once is the list, rising, with each of its things once: what is named often need be sought but once.
func once[T cmp.Ordered](list []T) []T {
	return slices.Compact(slices.Sorted(slices.Values(list)))
}
