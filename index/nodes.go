package index

import (
	"berth/api"
	"berth/bitset"
	"berth/domain"
	"berth/ordered"
)

// caps is the part for the nodes' capacities. A node whose capacity of a resource is 0 has no number there.
type caps struct{ amounts *ordered.Index }

func newCaps() caps {
	amounts, _ := ordered.New(api.MaxNodes)
	return caps{amounts}
}

func (c caps) hear(ch api.Change) {
	for _, it := range ch.Was.Cap {
		c.amounts.Del(it.Name, ch.Slot)
	}
	for _, it := range ch.Now.Cap {
		c.amounts.Put(it.Name, ch.Slot, it.N)
	}
}

// taints is the part for the nodes' taints: by a taint's key, and then by the taint, the nodes that bear it. No set in it is empty, and no map.
type taints map[string]map[api.Taint]*bitset.Set

func (m taints) hear(ch api.Change) {
	for _, t := range ch.Was.Taints {
		m.strike(ch.Slot, t)
	}
	for _, t := range ch.Now.Taints {
		m.enter(ch.Slot, t)
	}
}

func (m taints) strike(slot int, t api.Taint) {
	alike := m[t.Key]
	alike[t].Remove(slot)
	if alike[t].Next(0) < 0 {
		delete(alike, t)
	}
	if len(alike) == 0 {
		delete(m, t.Key)
	}
}

func (m taints) enter(slot int, t api.Taint) {
	if m[t.Key] == nil {
		m[t.Key] = map[api.Taint]*bitset.Set{}
	}
	if m[t.Key][t] == nil {
		m[t.Key][t] = noNodes()
	}
	m[t.Key][t].Add(slot)
}

// open is the part for the nodes that aren't cordoned.
type open struct{ nodes *bitset.Set }

func (o open) hear(ch api.Change) {
	if ch.Was.Name != "" {
		o.nodes.Remove(ch.Slot)
	}
	if ch.Now.Name != "" && !ch.Now.Cordoned {
		o.nodes.Add(ch.Slot)
	}
}

// areas is the part for the domains of nodes and the pods in them.
type areas struct{ domains *domain.Domains }

func (a areas) hear(ch api.Change) { a.domains.Apply(ch) }

// noNodes is an empty node bitmap.
func noNodes() *bitset.Set {
	set, _ := bitset.New(api.MaxNodes)
	return set
}
