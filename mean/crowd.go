package mean

import (
	"berth/api"
	"berth/labels"
)

// crowd is how many of the bound pods a selector selects, by the value that their nodes have of a topology key. It is the same at every node, since a selector speaks of the bound pod and of the pod to be placed alone.
type crowd struct {
	key  string
	pods map[string]int
}

// crowdOf a near, apart or count part.
func (m meaning) crowdOf(part api.Part) crowd {
	c := crowd{part.Text, map[string]int{}}
	selector := m.evaluators[part.Kids[0]]
	for _, g := range m.bound {
		value, has := labels.Get(g.home, c.key)
		if has && selector.worth(g.pod).Bool {
			c.pods[value]++
		}
	}
	return c
}

// at: how many of them stand in the domain of a node, and whether it is in one.
func (c crowd) at(s sight) (int, bool) {
	value, has := labels.Get(s.labels, c.key)
	if !has {
		return 0, false
	}
	return c.pods[value], true
}
