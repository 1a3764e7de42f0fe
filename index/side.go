package index

import (
	"berth/api"
	"berth/bitset"
	"berth/labels"
	"berth/ordered"
	"berth/posting"
)

// side is the part for what nodes and pods have alike: names, labels, and numbers in labels. There is one of the nodes and one of the pods. The zero side is read as one without rows.
type side struct {
	of      api.Side
	names   map[string]int
	labels  *posting.Index
	numbers *ordered.Index
}

// row is what a side looks at. One without a name is none, since every row has one.
type row struct {
	slot   int
	name   string
	labels []api.Label
}

func newSide(of api.Side, size int) side {
	lists, _ := posting.New(size)
	numbers, _ := ordered.New(size)
	return side{of, map[string]int{}, lists, numbers}
}

func (s side) hear(ch api.Change) {
	was, now := turn(s.of, ch)
	if was.name != "" {
		s.strike(was)
	}
	if now.name != "" {
		s.enter(now)
	}
}

// turn is the row of a side that goes with a change, and the one that comes.
func turn(of api.Side, ch api.Change) (was, now row) {
	p := row{ch.PodSlot, ch.Pod.Name, ch.Pod.Labels}
	switch {
	case of == api.OfNode:
		return row{ch.Slot, ch.Was.Name, ch.Was.Labels}, row{ch.Slot, ch.Now.Name, ch.Now.Labels}
	case ch.Kind == api.ChangePodAdd:
		return row{}, p
	}
	return p, row{}
}

func (s side) strike(r row) {
	delete(s.names, r.name)
	s.labels.Drop(r.slot)
	for _, l := range r.labels {
		s.numbers.Del(l.Key, r.slot) // refused where the value is no number: there is none to take out
	}
}

func (s side) enter(r row) {
	s.names[r.name] = r.slot
	s.labels.Put(r.slot, r.labels)
	for _, l := range r.labels {
		if n, ok := labels.Int(l.Value); ok {
			s.numbers.Put(l.Key, r.slot, n)
		}
	}
}

// none is an empty bitmap of the side's universe, which its labels know also where there is no side.
func (s side) none() *bitset.Set { return s.labels.In("", nil) }
