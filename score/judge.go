package score

import (
	"sync"

	"berth/api"
	"berth/cluster"
	"berth/filter"
	"berth/index"
	"berth/mean"
)

// judge gives the nodes of a cluster their points for one pod that layer 23 takes.
type judge struct {
	c     *cluster.Cluster
	x     *index.Index
	pod   api.Pod
	liked map[string]int
}

func judgeOf(c *cluster.Cluster, x *index.Index, p api.Pod) judge {
	return judge{c, x, p, liked(c, p)}
}

// liked is by node what the pod's preferred constraints that hold there weigh together. Each is asked for all nodes at once, since it may speak of all bound pods: these are then gone through once, and not once a node.
func liked(c *cluster.Cluster, p api.Pod) map[string]int {
	weights := map[string]int{}
	for _, term := range p.Prefer {
		tree, _ := filter.Tree(term.Text, api.OfNode)
		names, _ := mean.Where(c, tree, p)
		for _, name := range names {
			weights[name] += term.Weight
		}
	}
	return weights
}

// allPoints are the points of these nodes, side by side.
func (j judge) allPoints(names []string) []api.Points {
	all := make([]api.Points, len(names))
	var workers sync.WaitGroup
	for at, name := range names {
		workers.Add(1)
		go func() {
			defer workers.Done()
			all[at] = j.points(name)
		}()
	}
	workers.Wait()
	return all
}

// points of a node that is there.
func (j judge) points(name string) api.Points {
	node, _ := j.c.Node(name)
	shares := j.shares(node)
	return parts{
		least:     average(shares),
		balance:   100 - gap(shares),
		prefer:    j.liked[name],
		spread:    j.spreading(node),
		untainted: j.cleanness(node),
	}.points()
}
