package share_test

import (
	"slices"
	"strconv"

	"berth/api"
	"berth/cluster"
)

// sight is what is looked at, by the words of chapter 16: the pod to be placed and either a node of a cluster or a bound pod. A selector is asked by its place.
type sight struct {
	c       *cluster.Cluster
	pod     api.Pod
	node    api.Node
	it      api.Pod
	selects func(sel int, s sight) bool
}

func valueOf(list []api.Label, key string) any {
	for _, l := range list {
		if l.Key == key {
			return l.Value
		}
	}
	return nil
}

func (s sight) labels(side api.Side) []api.Label {
	return [][]api.Label{nil, s.pod.Labels, s.node.Labels, s.it.Labels}[side]
}

// worth is what a term is worth: a string, an int, or nil.
func (s sight) worth(t api.Term) any {
	switch t.Kind {
	case api.TermText:
		return t.Key
	case api.TermLabel:
		return valueOf(s.labels(t.Side), t.Key)
	case api.TermName:
		return []string{"", s.pod.Name, s.node.Name, s.it.Name}[t.Side]
	case api.TermNumber:
		v, _ := valueOf(s.labels(t.Side), t.Key).(string)
		if n, err := strconv.Atoi(v); err == nil && strconv.Itoa(n) == v && len(v) <= 15 {
			return n
		}
		return nil
	case api.TermCap:
		for _, item := range s.node.Cap {
			if item.Name == t.Key {
				return item.N
			}
		}
		return 0
	}
	return s.count(t.Key, t.Sel)
}

// count is how many bound pods of the node's domain are selected; nil, where the node is in none.
func (s sight) count(key string, sel int) any {
	here := valueOf(s.node.Labels, key)
	if here == nil {
		return nil
	}
	n := 0
	for _, name := range s.c.Pods() {
		bound, on, _ := s.c.Pod(name)
		home, _ := s.c.Node(on)
		if valueOf(home.Labels, key) == here && s.selects(sel, sight{pod: s.pod, it: bound}) {
			n++
		}
	}
	return n
}

func (s sight) literal(l api.Lit) bool {
	switch l.Kind {
	case api.LitTol:
		return s.tolerated(l.Key)
	case api.LitNear:
		n, _ := s.count(l.Key, l.Sel).(int)
		return n > 0
	}
	worth := s.worth(l.Term)
	if worth == nil {
		return false
	}
	text, _ := worth.(string)
	n, _ := worth.(int)
	hasKey := func(label api.Label) bool { return label.Key == text }
	switch l.Kind {
	case api.LitIn:
		return slices.Contains(l.Texts, text) || slices.Contains(l.Nums, n)
	case api.LitRel:
		return l.Rel == api.CmpLe && n <= l.Num || l.Rel == api.CmpGe && n >= l.Num
	case api.LitPod:
		return stands(worth, l.Rel, s.worth(l.Other))
	case api.LitKeys:
		return slices.ContainsFunc(s.labels(l.Of), hasKey)
	case api.LitTaints:
		return slices.ContainsFunc(s.node.Taints, func(taint api.Taint) bool { return taint.Key == text })
	}
	panic("no literal")
}

func stands(a any, c api.Cmp, b any) bool {
	if a == nil || b == nil {
		return false
	}
	if c == api.CmpEq {
		return a == b
	}
	x, y := a.(int), b.(int)
	return c == api.CmpLt && x < y || c == api.CmpLe && x <= y || c == api.CmpGt && x > y || c == api.CmpGe && x >= y
}

func (s sight) tolerated(effect string) bool {
	for _, taint := range s.node.Taints {
		tolerates := func(o api.Toleration) bool {
			exists := o.Op == "Exists" && (o.Key == "" || o.Key == taint.Key)
			equals := o.Op == "Equal" && o.Key == taint.Key && o.Value == taint.Value
			return (exists || equals) && (o.Effect == "" || o.Effect == taint.Effect)
		}
		if taint.Effect == effect && !slices.ContainsFunc(s.pod.Tolerations, tolerates) {
			return false
		}
	}
	return true
}

// listHolds: what the last part of a list is worth.
func (s sight) listHolds(list []api.PlanPart) bool {
	worths := make([]bool, len(list))
	for i, part := range list {
		all, some := true, false
		for _, kid := range part.Kids {
			all, some = all && worths[kid], some || worths[kid]
		}
		switch part.Kind {
		case api.PTrue:
			worths[i] = true
		case api.PAnd:
			worths[i] = all
		case api.POr:
			worths[i] = some
		case api.PLit:
			worths[i] = s.literal(part.Lit) != part.Neg
		}
	}
	return worths[len(list)-1]
}

// dagHolds: what a part of a dag is worth, by the chapter's words. For a part for nodes only such parts are reckoned, and for pods likewise.
func (s sight) dagHolds(parts []api.DagPart, place int) bool {
	worths := make([]bool, len(parts))
	for i, part := range parts[:place+1] {
		if part.Pods != parts[place].Pods {
			continue
		}
		all, some := true, false
		for _, kid := range part.Kids {
			all, some = all && worths[kid], some || worths[kid]
		}
		switch part.Kind {
		case api.DTrue:
			worths[i] = true
		case api.DLit:
			worths[i] = s.literal(part.Lit)
		case api.DNot:
			worths[i] = !all
		case api.DAnd:
			worths[i] = all
		case api.DOr:
			worths[i] = some
		}
	}
	return worths[place]
}

// where: at which nodes of a cluster something is true that is asked of each sight.
func where(c *cluster.Cluster, pod api.Pod, selects func(sel int, s sight) bool, holds func(s sight) bool) []string {
	var out []string
	for _, name := range c.Nodes() {
		n, _ := c.Node(name)
		if holds(sight{c: c, pod: pod, node: n, selects: selects}) {
			out = append(out, name)
		}
	}
	return out
}

func wherePlan(c *cluster.Cluster, p api.Plan, pod api.Pod) []string {
	selects := func(sel int, s sight) bool { return s.listHolds(p.Sels[sel]) }
	return where(c, pod, selects, func(s sight) bool { return s.listHolds(p.Main) })
}

func whereDag(c *cluster.Cluster, d api.Dag, pod api.Pod) []string {
	selects := func(sel int, s sight) bool { return s.dagHolds(d.Parts, sel) }
	return where(c, pod, selects, func(s sight) bool { return s.dagHolds(d.Parts, d.Root) })
}
