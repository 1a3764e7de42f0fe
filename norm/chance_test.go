package norm_test

import (
	"fmt"
	"math/rand/v2"
	"slices"
	"testing"

	"berth/api"
	"berth/cluster"
)

// chance makes trees, pods and clusters by chance: slips is how often, out of a hundred, a thing is put into a tree that need not fit.
type chance struct {
	*rand.Rand
	slips int
}

func newChance(seed uint64, slips int) chance { return chance{rand.New(rand.NewPCG(16, seed)), slips} }

func (c chance) slip() bool { return c.IntN(100) < c.slips }

func one[T any](c chance, list ...T) T { return list[c.IntN(len(list))] }

// Few words, so that what is asked for is often there.
var (
	someKeys   = []string{"zone", "rack", "app", "n", "k/A"}
	someValues = []string{"x", "y", "", "1", "2", "3", "02", "-1", "web"}
	someNames  = []string{"a0", "b0", "c0", "d0", "p0", "p1"}
)

func (c chance) key() string {
	if c.slip() {
		return one(c, "", "a b", "-", "a/b/c")
	}
	return one(c, someKeys...)
}

func (c chance) side(scope api.Side) int {
	if c.slip() {
		return 1 + c.IntN(3)
	}
	return one(c, pod, int(scope))
}

func (c chance) text(scope api.Side) twig {
	switch c.IntN(6) {
	case 0:
		return text(one(c, someValues...))
	case 1:
		return text(one(c, slices.Concat(someNames, someKeys)...))
	case 2:
		return name(c.side(scope))
	}
	return label(c.side(scope), c.key())
}

func (c chance) number(scope api.Side, deep int) twig {
	if scope == api.OfNode && c.IntN(2) == 0 || c.slip() {
		if deep > 0 && c.IntN(3) > 0 {
			return count(c.key(), c.condition(api.OfIt, deep-1))
		}
		return capacity(one(c, node, node, node, c.side(scope)), one(c, "cpu", "mem"))
	}
	if c.IntN(2) == 0 {
		return num(c.IntN(5) - 1)
	}
	return integer(one(c, text(one(c, someValues...)), label(c.side(scope), one(c, "n", "n", c.key()))))
}

func (c chance) set(element func() twig) twig {
	kids := make([]twig, c.IntN(5))
	for i := range kids {
		kids[i] = element()
		if c.slip() {
			kids[i] = one(c, text("x"), num(3))
		}
	}
	return set(kids...)
}

func (c chance) texts(scope api.Side) twig {
	switch {
	case scope == api.OfNode && c.IntN(4) == 0 || c.slip():
		return taints(one(c, node, node, c.side(scope)))
	case c.IntN(3) == 0:
		return keys(c.side(scope))
	}
	return c.set(func() twig { return text(one(c, slices.Concat(someValues, someNames)...)) })
}

// pair is a comparison or a membership; where both kids move, layer 14 refuses it.
func (c chance) pair(scope api.Side, deep int) twig {
	switch c.IntN(4) {
	case 0:
		return of(api.KIn, "", c.IntN(2), c.text(scope), one(c, c.texts(scope), c.texts(api.OfPod)))
	case 1:
		return of(api.KIn, "", c.IntN(2), c.number(scope, deep), c.set(func() twig { return num(c.IntN(6) - 1) }))
	case 2:
		return cmp(c.text(scope), api.Cmp(1+c.IntN(2)), one(c, text(one(c, someValues...)), label(pod, c.key()), c.text(api.OfPod)))
	}
	return cmp(c.number(scope, deep), api.Cmp(1+c.IntN(6)), one(c, num(c.IntN(4)-1), num(c.IntN(4)), integer(label(pod, "n"))))
}

func (c chance) condition(scope api.Side, deep int) twig {
	if deep <= 0 || c.IntN(4) == 0 {
		switch c.IntN(8) {
		case 0:
			return one(c, yes, no)
		case 1:
			if scope == api.OfNode || c.slip() {
				return tolerated(one(c, "NoSchedule", "NoExecute", "PreferNoSchedule"))
			}
		}
		return c.pair(scope, deep-1)
	}
	switch {
	case c.IntN(4) == 0:
		return not(c.condition(scope, deep-1))
	case c.IntN(3) == 0 && scope == api.OfNode || c.slip() && c.IntN(2) == 0:
		return one(c, near, apart)(c.key(), c.condition(api.OfIt, deep-1))
	}
	kids := make([]twig, 2+c.IntN(2)*c.IntN(3))
	for i := range kids {
		kids[i] = c.condition(scope, deep-1-c.IntN(2))
	}
	return one(c, and, or)(kids...)
}

// taken is a condition that layer 14 takes in a scope.
func (c chance) taken(scope api.Side, deep int) twig {
	for {
		w := c.condition(scope, c.IntN(deep+1))
		if taken(list(w), scope) {
			return w
		}
	}
}

// labels are such as a cluster takes, in no order.
func (c chance) labels() []api.Label {
	var out []api.Label
	for _, i := range c.Perm(len(someKeys))[:c.IntN(len(someKeys)+1)] {
		out = append(out, api.Label{Key: someKeys[i], Value: one(c, someValues...)})
	}
	return out
}

func (c chance) tolerations() []api.Toleration {
	all := []api.Toleration{
		{Op: api.Exists, Effect: api.NoExecute}, {Key: "t", Op: api.Exists}, {Key: "t", Op: api.Equal, Value: "x"},
		{Key: "zone", Op: api.Equal, Effect: api.NoSchedule}, {Key: "t", Op: api.Equal, Value: "y", Effect: api.PreferNoSchedule},
	}
	out := make([]api.Toleration, c.IntN(4))
	for i := range out {
		out[i] = one(c, all...)
	}
	return out
}

// rawPod is a pod as it may be handed in: its lists raw, its texts of any kind.
func (c chance) rawPod() api.Pod {
	p := api.Pod{Name: one(c, append(someNames, "", "No!")...), Labels: c.labels(), Tolerations: c.tolerations()}
	for range c.IntN(4) {
		at := c.IntN(len(p.Labels) + 1)
		p.Labels = slices.Insert(p.Labels, at, api.Label{Key: one(c, append(someKeys, "", "a b")...), Value: one(c, append(someValues, "\xff", "- -")...)})
	}
	if c.IntN(3) == 0 {
		p.Tolerations = append(p.Tolerations, api.Toleration{Key: "t", Op: one(c, "", "exists", "Equal"), Value: one(c, "", "x"), Effect: one(c, "", "Never")})
	}
	return p
}

func (c chance) node(named string) api.Node {
	n := api.Node{Name: named, Labels: c.labels(), Cordoned: c.IntN(4) == 0}
	for _, t := range []api.Taint{{Key: "t", Value: one(c, "x", "y", ""), Effect: api.NoSchedule}, {Key: "t", Effect: api.NoExecute}, {Key: "zone", Value: "x", Effect: api.PreferNoSchedule}, {Key: "zone", Effect: api.NoSchedule}} {
		if c.IntN(4) == 0 {
			n.Taints = append(n.Taints, t)
		}
	}
	for _, r := range []string{"mem", "cpu"} {
		if c.IntN(2) == 0 {
			n.Cap = append(n.Cap, api.Item{Name: r, N: c.IntN(4)})
		}
	}
	return n
}

// cluster has at most that many nodes and pods.
func (c chance) cluster(t *testing.T, nodes, pods int) *cluster.Cluster {
	var list []api.Node
	var bound []stand
	for i := range c.IntN(nodes + 1) {
		list = append(list, c.node(fmt.Sprint(string(rune('a'+i%26)), i/26)))
	}
	if len(list) > 0 {
		for i := range c.IntN(pods + 1) {
			bound = append(bound, stand{api.Pod{Name: fmt.Sprint("p", i), Labels: c.labels(), Tolerations: c.tolerations()}, one(c, list...).Name})
		}
	}
	return clusterOf(t, list, bound...)
}
