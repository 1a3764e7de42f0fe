package filter

import (
	"berth/api"
	"berth/cluster"
	"berth/mean"
	"berth/quant"
	"berth/taint"
)

// question is whether a node may take a pod that Check has answered.
type question struct {
	c    *cluster.Cluster
	pod  api.Pod
	node api.Node
}

// answer is the first of the chapter's table that stands against the node.
func (q question) answer() api.Reason {
	table := []func() api.Reason{q.cordoned, q.tainted, q.full, q.barred, q.near, q.shunned}
	for _, against := range table {
		if reason := against(); reason.Verdict != api.Fits {
			return reason
		}
	}
	return api.Reason{}
}

func (q question) cordoned() api.Reason {
	if q.node.Cordoned {
		return api.Reason{Verdict: api.IsCordoned}
	}
	return api.Reason{}
}

func (q question) tainted() api.Reason {
	for _, t := range q.node.Taints {
		if t.Effect != api.PreferNoSchedule && !taint.Tolerated([]api.Taint{t}, q.pod.Tolerations, t.Effect) {
			text, _ := taint.Text(t)
			return api.Reason{Verdict: api.IsTainted, Name: text}
		}
	}
	return api.Reason{}
}

func (q question) full() api.Reason {
	if resource, full := lacking(q.c, q.pod, q.node); full {
		return api.Reason{Verdict: api.IsFull, Name: resource}
	}
	return api.Reason{}
}

func (q question) barred() api.Reason {
	tree, _ := required(q.pod)
	if part, holds, _ := mean.Why(q.c, tree, q.pod, q.node.Name); !holds {
		return api.Reason{Verdict: api.IsBarred, Part: part}
	}
	return api.Reason{}
}

// near looks at the pod's own terms.
func (q question) near() api.Reason {
	for at, term := range q.pod.Apart {
		tree, _ := selector(term)
		for g := range guests(q.c) {
			if !g.beside(q.node, term.Topo) {
				continue
			}
			if selects, _ := mean.Selects(tree, q.pod, g.pod); selects {
				return api.Reason{Verdict: api.IsNear, Part: at, Name: g.pod.Name}
			}
		}
	}
	return api.Reason{}
}

// shunned looks at the terms of bound pods.
func (q question) shunned() api.Reason {
	for g := range guests(q.c) {
		for at, term := range g.pod.Apart {
			if g.beside(q.node, term.Topo) && g.minds(term, q.pod) {
				return api.Reason{Verdict: api.IsShunned, Part: at, Name: g.pod.Name}
			}
		}
	}
	return api.Reason{}
}

// lacking is the first resource of which a node has too little left for the pod, if there is one.
func lacking(c *cluster.Cluster, p api.Pod, node api.Node) (string, bool) {
	used, _ := c.Used(node.Name)
	resource, code := quant.Short(p.Needs, node.Cap, used)
	return resource, code != api.OK
}
