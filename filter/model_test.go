package filter_test

import (
	"cmp"
	"slices"
	"testing"

	"berth/api"
	"berth/cluster"
	"berth/labels"
	"berth/mean"
	"berth/parse"
	"berth/sorts"
	"berth/taint"
)

// read is the chapter's words for Tree: the tree, or the code and the place of the fault.
func read(source string, scope api.Side) (api.Tree, string) {
	if scope != api.OfNode && scope != api.OfIt {
		return api.Tree{}, faulty(api.ErrSortSide, -1)
	}
	tree, offsets, err := parse.Parse(source)
	if err != nil {
		return api.Tree{}, told(err)
	}
	if _, err := sorts.Check(tree, scope); err != nil {
		f := err.(*api.Fault)
		return api.Tree{}, faulty(f.Code, offsets[f.At])
	}
	return tree, "none"
}

// mustRead is the tree of a source that reads.
func mustRead(t *testing.T, source string, scope api.Side) api.Tree {
	t.Helper()
	tree, fault := read(source, scope)
	if fault != "none" {
		t.Fatalf("%s: %s", short(source), fault)
	}
	return tree
}

// faultsOf are all faults of a pod by the chapter's table, those of one rank in the order in which they are looked for.
func faultsOf(p api.Pod) []string {
	var out []string
	tell := func(is bool, fault string) {
		if is {
			out = append(out, fault)
		}
	}
	_, err := cluster.CheckPod(p)
	tell(err != nil, told(err))
	tell(p.Priority != min(max(p.Priority, -1000000), 1000000), "234 at -1")
	tell(max(len(p.Apart), len(p.Prefer)) > 8, "235 at -1")
	_, fault := read(p.Require, api.OfNode)
	tell(p.Require != "" && fault != "none", "230 at -1 ("+fault+")")
	for i, a := range p.Apart {
		_, fault := read(a.Select, api.OfIt)
		at := told(&api.Fault{Code: 231, At: i})
		tell(!labels.IsKey(a.Topo), at+" (the number 31)")
		tell(labels.IsKey(a.Topo) && fault != "none", at+" ("+fault+")")
	}
	for i, a := range p.Prefer {
		_, fault := read(a.Text, api.OfNode)
		tell(a.Weight <= 0 || a.Weight >= 101, told(&api.Fault{Code: 233, At: i}))
		tell(fault != "none", told(&api.Fault{Code: 232, At: i})+" ("+fault+")")
	}
	return out
}

// resident is a bound pod and its node.
type resident struct {
	pod  api.Pod
	node api.Node
}

func residents(c *cluster.Cluster) []resident {
	var out []resident
	for _, name := range c.Pods() {
		pod, on, _ := c.Pod(name)
		node, _ := c.Node(on)
		out = append(out, resident{pod, node})
	}
	return out
}

// together: whether two nodes are in one domain of the key.
func together(a, b api.Node, key string) bool {
	for _, l := range a.Labels {
		for _, m := range b.Labels {
			if l == m && l.Key == key {
				return true
			}
		}
	}
	return false
}

// standing are the lines of the chapter's table that stand against a node, each as it would be told if those ahead of it did not stand. The pod is one that Check has answered.
func standing(t *testing.T, c *cluster.Cluster, p api.Pod, name string) []api.Reason {
	t.Helper()
	node, there := c.Node(name)
	if !there {
		t.Fatal(name)
	}
	var out []api.Reason
	if node.Cordoned {
		out = append(out, because(1, 0, ""))
	}
	for _, each := range [][]api.Reason{untolerated(node, p), lacking(c, node, p), notHolding(t, c, node, p), ownTerms(t, c, node, p), theirTerms(t, c, node, p)} {
		out = append(out, each[:min(len(each), 1)]...)
	}
	return out
}

func untolerated(node api.Node, p api.Pod) (out []api.Reason) {
	for _, each := range node.Taints {
		matched := slices.ContainsFunc(p.Tolerations, func(o api.Toleration) bool { return taint.Match(o, each) })
		if !matched && each.Effect != "PreferNoSchedule" {
			text, _ := taint.Text(each)
			out = append(out, because(2, 0, text))
		}
	}
	return out
}

// lacking adds up what the node's pods need, resource by resource.
func lacking(c *cluster.Cluster, node api.Node, p api.Pod) (out []api.Reason) {
	left := map[string]int{}
	for _, item := range node.Cap {
		left[item.Name] = item.N
	}
	for _, r := range residents(c) {
		for _, item := range r.pod.Needs {
			if r.node.Name == node.Name {
				left[item.Name] -= item.N
			}
		}
	}
	for _, item := range p.Needs {
		if item.N > left[item.Name] {
			out = append(out, because(3, 0, item.Name))
		}
	}
	slices.SortFunc(out, func(a, b api.Reason) int { return cmp.Compare(a.Name, b.Name) })
	return out
}

func notHolding(t *testing.T, c *cluster.Cluster, node api.Node, p api.Pod) []api.Reason {
	t.Helper()
	if p.Require == "" {
		return nil
	}
	tree := mustRead(t, p.Require, api.OfNode)
	holds, err := mean.Holds(c, tree, p, node.Name)
	part, _, other := mean.Why(c, tree, p, node.Name)
	if err != nil || other != nil {
		t.Fatal(err, other)
	}
	if holds {
		return nil
	}
	return []api.Reason{because(4, part, "")}
}

// ownTerms are all pairs of a term of the pod's and a bound pod that stands against it, by the term's place and then by the name.
func ownTerms(t *testing.T, c *cluster.Cluster, node api.Node, p api.Pod) (out []api.Reason) {
	t.Helper()
	for _, r := range residents(c) {
		for at, term := range p.Apart {
			selects, err := mean.Selects(mustRead(t, term.Select, api.OfIt), p, r.pod)
			if err != nil {
				t.Fatal(err)
			}
			if selects && together(r.node, node, term.Topo) {
				out = append(out, because(5, at, r.pod.Name))
			}
		}
	}
	slices.SortFunc(out, func(a, b api.Reason) int { return cmp.Or(a.Part-b.Part, cmp.Compare(a.Name, b.Name)) })
	return out
}

// theirTerms are all pairs of a bound pod and a term of its that bars the node, by the name and then by the term's place.
func theirTerms(t *testing.T, c *cluster.Cluster, node api.Node, p api.Pod) (out []api.Reason) {
	t.Helper()
	for _, r := range residents(c) {
		for at, term := range r.pod.Apart {
			tree, fault := read(term.Select, api.OfIt)
			if fault != "none" || !labels.IsKey(term.Topo) {
				continue
			}
			selects, err := mean.Selects(tree, r.pod, p)
			if err != nil {
				t.Fatal(err)
			}
			if selects && together(r.node, node, term.Topo) {
				out = append(out, because(6, at, r.pod.Name))
			}
		}
	}
	slices.SortFunc(out, func(a, b api.Reason) int { return cmp.Or(cmp.Compare(a.Name, b.Name), a.Part-b.Part) })
	return out
}
