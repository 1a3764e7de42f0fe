package mean

import (
	"berth/api"
	"berth/cluster"
)

// sight is what is looked at: a node, or in a selector a pod. Since all that moves in one scope has one side, a part that moves speaks of the sight. A pod has neither taints nor a capacity: no part of a selector asks for them.
type sight struct {
	name    string
	labels  []api.Label
	taints  []api.Taint
	amounts []api.Item
}

func sightOfNode(n api.Node) sight { return sight{n.Name, n.Labels, n.Taints, n.Cap} }

func sightOfPod(p api.Pod) sight { return sight{name: p.Name, labels: p.Labels} }

// guest is a bound pod and the labels of the node on which it stands.
type guest struct {
	pod  sight
	home []api.Label
}

// guests are all bound pods of a cluster.
func guests(c *cluster.Cluster) []guest {
	var all []guest
	for _, name := range c.Nodes() {
		home, _ := c.Node(name)
		for _, podName := range c.On(name) {
			pod, _, _ := c.Pod(podName)
			all = append(all, guest{sightOfPod(pod), home.Labels})
		}
	}
	return all
}
