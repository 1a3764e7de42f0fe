package score_test

import (
	"math/big"
	"slices"
	"testing"

	"berth/api"
	"berth/cluster"
	"berth/filter"
	"berth/mean"
	"berth/taint"
)

// pointsOf is the chapter's section 'Types' word by word, of what a cluster tells of its nodes and its bound pods.
func pointsOf(t *testing.T, c *cluster.Cluster, p api.Pod, name string) api.Points {
	t.Helper()
	p, err := filter.Check(p)
	node, there := c.Node(name)
	if err != nil || !there {
		t.Fatal(told(err), there)
	}
	out := api.Points{Spread: spreadOf(c, p, node), Taint: taintOf(p, node)}
	out.Least, out.Balance = fillOf(c, p, node)
	for _, term := range p.Prefer {
		tree, err := filter.Tree(term.Text, api.OfNode)
		holds, fault := mean.Holds(c, tree, p, name)
		if err != nil || fault != nil {
			t.Fatal(told(err), told(fault))
		}
		if holds {
			out.Prefer += term.Weight
		}
	}
	out.Total = out.Least + out.Balance + out.Prefer + 2*out.Spread + 3*out.Taint
	return out
}

// fillOf is Least and Balance: what is free is reckoned of the needs of the pods that stand on the node.
func fillOf(c *cluster.Cluster, p api.Pod, node api.Node) (int, int) {
	var shares []int
	for _, of := range node.Cap {
		left := big.NewInt(int64(of.N))
		takes := func(needs []api.Item) {
			for _, need := range needs {
				if need.Name == of.Name {
					left.Sub(left, big.NewInt(int64(need.N)))
				}
			}
		}
		for _, name := range c.On(node.Name) {
			guest, _, _ := c.Pod(name)
			takes(guest.Needs)
		}
		takes(p.Needs)
		if left.Sign() < 0 {
			left.SetInt64(0)
		}
		left.Mul(left, big.NewInt(100))
		shares = append(shares, int(left.Div(left, big.NewInt(int64(of.N))).Int64()))
	}
	if len(shares) == 0 {
		return 0, 100
	}
	sum := 0
	for _, share := range shares {
		sum += share
	}
	slices.Sort(shares)
	return sum / len(shares), 100 - shares[len(shares)-1] + shares[0]
}

// valueOf is the value of a key, of a list in which it stands once at most.
func valueOf(list []api.Label, key string) []string {
	for _, l := range list {
		if l.Key == key {
			return []string{l.Value}
		}
	}
	return nil
}

func spreadOf(c *cluster.Cluster, p api.Pod, node api.Node) int {
	kind, zone := valueOf(p.Labels, "app"), valueOf(node.Labels, "zone")
	if kind == nil {
		return 100
	}
	if zone == nil {
		return 0
	}
	out := 1
	for _, name := range c.Pods() {
		guest, on, _ := c.Pod(name)
		home, _ := c.Node(on)
		if slices.Equal(valueOf(guest.Labels, "app"), kind) && slices.Equal(valueOf(home.Labels, "zone"), zone) {
			out++
		}
	}
	return 100 / out
}

func taintOf(p api.Pod, node api.Node) int {
	out := 100
	for _, each := range node.Taints {
		matched := slices.ContainsFunc(p.Tolerations, func(o api.Toleration) bool { return taint.Match(o, each) })
		if each.Effect == "PreferNoSchedule" && !matched && out > 0 {
			out -= 10
		}
	}
	return out
}

// faultsOfPoints are all faults of a call, in the order of the chapter's table.
func faultsOfPoints(c *cluster.Cluster, p api.Pod, node string) []string {
	out := faultsOfPod(p)
	if !slices.Contains(c.Nodes(), node) {
		out = append(out, told(&api.Fault{Code: 241, At: -1, Name: node}))
	}
	return out
}

func faultsOfBest(c *cluster.Cluster, p api.Pod, nodes []string) []string {
	out := faultsOfPod(p)
	if len(nodes) == 0 {
		out = append(out, "240 at -1")
	}
	for at, node := range nodes {
		if !slices.Contains(c.Nodes(), node) {
			out = append(out, told(&api.Fault{Code: 241, At: at, Name: node}))
		}
	}
	return out
}

func faultsOfPod(p api.Pod) []string {
	if _, err := filter.Check(p); err != nil {
		return []string{told(&api.Fault{Code: 242, At: -1, Name: p.Name, Cause: err})}
	}
	return nil
}
