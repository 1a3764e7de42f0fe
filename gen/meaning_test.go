package gen_test

import (
	"slices"
	"strconv"

	"berth/api"
	"berth/cluster"
)

// world is a cluster's rows: the nodes and the bound pods, with the place of each pod's node.
type world struct {
	nodes []api.Node
	pods  []api.Pod
	homes []int
}

func worldOf(c *cluster.Cluster) world {
	var w world
	names := c.Nodes()
	for _, name := range names {
		n, _ := c.Node(name)
		w.nodes = append(w.nodes, n)
	}
	for _, name := range c.Pods() {
		pod, on, _ := c.Pod(name)
		w.pods = append(w.pods, pod)
		w.homes = append(w.homes, slices.Index(names, on))
	}
	return w
}

func (w world) namesOf(nodes []bool) []string {
	var out []string
	for i, is := range nodes {
		if is {
			out = append(out, w.nodes[i].Name)
		}
	}
	return out
}

func valueOf(list []api.Label, key string) (string, bool) {
	for _, l := range list {
		if l.Key == key {
			return l.Value, true
		}
	}
	return "", false
}

// read is labels.Int's number of a text that is there.
func read(value string, there bool) (int, bool) {
	n, err := strconv.Atoi(value)
	return n, there && err == nil && strconv.Itoa(n) == value && len(value) <= 15
}

func stands(x int, c api.Cmp, y int) bool {
	return []bool{false, x == y, x != y, x < y, x <= y, x > y, x >= y}[c]
}

func capOf(n api.Node, resource string) int {
	for _, item := range n.Cap {
		if item.Name == resource {
			return item.N
		}
	}
	return 0
}

func tolerates(pod api.Pod, n api.Node, effect string) bool {
	for _, taint := range n.Taints {
		fits := func(o api.Toleration) bool {
			exists := o.Op == "Exists" && (o.Key == "" || o.Key == taint.Key)
			equals := o.Op == "Equal" && o.Key == taint.Key && o.Value == taint.Value
			return (exists || equals) && (o.Effect == "" || o.Effect == taint.Effect)
		}
		if taint.Effect == effect && !slices.ContainsFunc(pod.Tolerations, fits) {
			return false
		}
	}
	return true
}

// countOf is how many of these bound pods stand in a node's domain; false, where it is in none.
func (w world) countOf(n api.Node, key string, pods []bool) (int, bool) {
	here, has := valueOf(n.Labels, key)
	count := 0
	for i, is := range pods {
		there, labelled := valueOf(w.nodes[w.homes[i]].Labels, key)
		if is && labelled && there == here {
			count++
		}
	}
	return count, has
}

// sight is what is looked at: the pod to be placed and either a node or a bound pod.
type sight struct {
	w    world
	pod  api.Pod
	node api.Node
	it   api.Pod
	sels func(place int) []bool // which bound pods a selector selects
}

func (s sight) labels(side api.Side) []api.Label {
	return [][]api.Label{nil, s.pod.Labels, s.node.Labels, s.it.Labels}[side]
}

func (s sight) textOf(t api.Term) (string, bool) {
	switch t.Kind {
	case api.TermText:
		return t.Key, true
	case api.TermLabel:
		return valueOf(s.labels(t.Side), t.Key)
	}
	return []string{"", s.pod.Name, s.node.Name, s.it.Name}[t.Side], true
}

func (s sight) numberOf(t api.Term) (int, bool) {
	switch t.Kind {
	case api.TermNumber:
		return read(valueOf(s.labels(t.Side), t.Key))
	case api.TermCap:
		return capOf(s.node, t.Key), true
	}
	return s.w.countOf(s.node, t.Key, s.sels(t.Sel))
}

// literal is chapter 16's table.
func (s sight) literal(l api.Lit) bool {
	switch l.Kind {
	case api.LitTol:
		return tolerates(s.pod, s.node, l.Key)
	case api.LitNear:
		n, has := s.w.countOf(s.node, l.Key, s.sels(l.Sel))
		return has && n > 0
	case api.LitRel:
		n, known := s.numberOf(l.Term)
		return known && stands(n, l.Rel, l.Num)
	}
	if l.Term.Kind >= api.TermNumber {
		n, known := s.numberOf(l.Term)
		if l.Kind == api.LitIn {
			return known && slices.Contains(l.Nums, n)
		}
		m, there := s.numberOf(l.Other)
		return known && there && stands(n, l.Rel, m)
	}
	text, known := s.textOf(l.Term)
	switch l.Kind {
	case api.LitIn:
		return known && slices.Contains(l.Texts, text)
	case api.LitPod:
		other, there := s.textOf(l.Other)
		return known && there && text == other
	case api.LitKeys:
		_, has := valueOf(s.labels(l.Of), text)
		return known && has
	}
	return known && slices.ContainsFunc(s.node.Taints, func(taint api.Taint) bool { return taint.Key == text })
}

// worths: where each part of a dag is true, by chapter 18: at which nodes, or for which bound pods.
func worths(w world, d api.Dag, pod api.Pod) [][]bool {
	out := make([][]bool, len(d.Parts))
	sels := func(place int) []bool { return out[place] }
	for at, part := range d.Parts {
		rows := len(w.nodes)
		if part.Pods {
			rows = len(w.pods)
		}
		out[at] = make([]bool, rows)
		for i := range rows {
			all, some := true, false
			for _, kid := range part.Kids {
				all, some = all && out[kid][i], some || out[kid][i]
			}
			s := sight{w: w, pod: pod, sels: sels}
			if part.Pods {
				s.it = w.pods[i]
			} else {
				s.node = w.nodes[i]
			}
			switch part.Kind {
			case api.DLit:
				out[at][i] = s.literal(part.Lit)
			case api.DNot:
				out[at][i] = !all
			case api.DOr:
				out[at][i] = some
			default: // DAnd; DTrue has no kids
				out[at][i] = all && part.Kind != api.DFalse
			}
		}
	}
	return out
}

// whereDag: at which nodes the Root is true.
func whereDag(w world, d api.Dag, pod api.Pod) []string {
	return w.namesOf(worths(w, d, pod)[d.Root])
}
