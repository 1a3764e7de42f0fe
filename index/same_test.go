package index_test

import (
	"testing"

	"berth/api"
	"berth/index"
)

// same holds Same of two, in both orders, to what it must be.
func same(t *testing.T, what string, a, b *index.Index, want bool) {
	t.Helper()
	if index.Same(a, b) != want || index.Same(b, a) != want {
		t.Errorf("%s: Same is %v and %v, want %v", what, index.Same(a, b), index.Same(b, a), want)
	}
	if !index.Same(a, a) || !index.Same(b, b) {
		t.Errorf("%s: one isn't the same as itself", what)
	}
}

// P10.3: of those without rows, nil ones too.
func TestSameEmpty(t *testing.T) {
	same(t, "nil", nil, nil, true)
	b := made(t)
	same(t, "new and nil", b.x, nil, true)
	same(t, "new ones", b.x, made(t).x, true)
	b.does(nodeAdd(0, named("a")))
	same(t, "a bare node and nil", b.x, nil, false)
	same(t, "a bare node and new", b.x, made(t).x, false)
	b.does(podAdd(0, 0, "p"))
	b.does(podDel(0, 0))
	b.does(nodeDel(0))
	same(t, "emptied and nil", b.x, nil, true)
	b.apply(nodeAdd(-1, named("a")))
	same(t, "refused and nil", b.x, nil, true)
}

// P10.3: the same rows by another road, with others that come and go between.
func TestSameByAnotherRoad(t *testing.T) {
	a, b := ordinary(t), made(t)
	b.does(nodeAdd(9, api.Node{Name: "new", Labels: many(api.MaxLabels, "x"), Taints: marks("gpu", "x", api.NoSchedule), Cap: items("cpu", 4)}))
	b.does(nodeAdd(last, named("e", "rank", "3", "zone", "x")))
	b.does(nodeAdd(63, named("c")))
	b.does(podAdd(2, last, "p", tags("app", "web")...))
	b.does(podAdd(7, 9, "q", tags("app", "web")...))
	b.does(nodeDel(63))
	for _, slot := range []int{63, 2, 1, 0} {
		n := cloned(a.m.nodes[slot])
		n.Cordoned, n.Taints = !n.Cordoned, marks("zone", "y", api.NoSchedule)
		b.does(nodeAdd(slot, n))
	}
	same(t, "half way", a.x, b.x, false)
	b.does(podDel(2, last))
	b.does(podDel(7, 9))
	b.does(nodeDel(9))
	for slot, n := range a.m.nodes {
		b.does(nodeSet(slot, n))
	}
	same(t, "without pods", a.x, b.x, false)
	for slot, p := range a.m.pods {
		same(t, "a pod too few", a.x, b.x, false)
		b.does(podAdd(slot, p.node, p.name, p.labels...))
	}
	same(t, "by another road", a.x, b.x, true)
	b.apply(nodeAdd(3, named("a")))
	b.apply(nodeDel(0))
	b.apply(podAdd(0, 0, "new"))
	b.apply(podDel(0, 1))
	b.apply(nodeSet(0, named("b")))
	same(t, "behind refused changes", a.x, b.x, true)
	a.check("the one")
	b.check("the other")
}

// P10.3: each thing that a row has, if it differs, makes two unlike; to do the same to the other makes them the same again.
func TestUnlike(t *testing.T) {
	b1 := func(change func(n *api.Node)) func(b both) {
		return func(b both) {
			n := cloned(b.m.nodes[1])
			change(&n)
			b.does(nodeSet(1, n))
		}
	}
	pod := func(slot, node int, name string, list ...api.Label) func(b both) {
		return func(b both) {
			b.does(podDel(0, 0))
			b.does(podAdd(slot, node, name, list...))
		}
	}
	for what, change := range map[string]func(b both){
		"a node more":             func(b both) { b.does(nodeAdd(3, named("new"))) },
		"a node less":             func(b both) { b.does(nodeDel(last)) },
		"a node's slot":           func(b both) { b.does(nodeDel(last)); b.does(nodeAdd(last-1, named("e", "rank", "7", "zone", ""))) },
		"a node's name":           func(b both) { b.does(nodeDel(last)); b.does(nodeAdd(last, named("f", "rank", "7", "zone", ""))) },
		"a node's value":          b1(func(n *api.Node) { n.Labels[1].Value = "x" }),
		"a node's empty value":    b1(func(n *api.Node) { n.Labels[1].Value = "" }),
		"a node's key":            b1(func(n *api.Node) { n.Labels[1].Key = "zones" }),
		"a node's label more":     b1(func(n *api.Node) { n.Labels = tags("app", "", "rank", "-5", "zone", "y") }),
		"a node's label less":     b1(func(n *api.Node) { n.Labels = n.Labels[:1] }),
		"a node's labels gone":    b1(func(n *api.Node) { n.Labels = nil }),
		"a taint's key":           b1(func(n *api.Node) { n.Taints[0].Key = "disk" }),
		"a taint's value":         b1(func(n *api.Node) { n.Taints[0].Value = "x" }),
		"a taint's effect":        b1(func(n *api.Node) { n.Taints = marks("gpu", "", api.NoExecute, "gpu", "", api.NoSchedule) }),
		"a taint less":            b1(func(n *api.Node) { n.Taints = n.Taints[:1] }),
		"a taint more":            b1(func(n *api.Node) { n.Taints = append(n.Taints, marks("zone", "", api.NoExecute)...) }),
		"a capacity":              b1(func(n *api.Node) { n.Cap[0].N++ }),
		"a resource":              b1(func(n *api.Node) { n.Cap[0].Name = "mem" }),
		"a resource more":         b1(func(n *api.Node) { n.Cap = items("cpu", 8, "mem", 1) }),
		"a resource less":         b1(func(n *api.Node) { n.Cap = nil }),
		"cordoned":                b1(func(n *api.Node) { n.Cordoned = true }),
		"a pod more":              func(b both) { b.does(podAdd(3, 0, "new")) },
		"a pod less":              func(b both) { b.does(podDel(0, 0)) },
		"a pod's slot":            pod(3, 0, "p", tags("app", "web", "rank", "3")...),
		"a pod's name":            pod(0, 0, "pp", tags("app", "web", "rank", "3")...),
		"a pod's node":            pod(0, 1, "p", tags("app", "web", "rank", "3")...),
		"a pod's node, same zone": pod(0, 2, "p", tags("app", "web", "rank", "3")...),
		"a pod's bare node":       pod(0, 63, "p", tags("app", "web", "rank", "3")...),
		"a pod's value":           pod(0, 0, "p", tags("app", "web", "rank", "4")...),
		"a pod's key":             pod(0, 0, "p", tags("app", "web", "tier", "3")...),
		"a pod's label more":      pod(0, 0, "p", tags("app", "web", "rank", "3", "tier", "")...),
		"a pod's label less":      pod(0, 0, "p", tags("app", "web")...),
		"two pods' names about": func(b both) {
			b.does(podDel(64, 1))
			pod(0, 0, "s", tags("app", "web", "rank", "3")...)(b)
			b.does(podAdd(64, 1, "p", tags("app", "db", "rank", "x")...))
		},
	} {
		a, b := ordinary(t), ordinary(t)
		same(t, "ahead of "+what, a.x, b.x, true)
		change(b)
		same(t, what, a.x, b.x, false)
		b.check(what)
		change(a)
		same(t, what+" of both", a.x, b.x, true)
	}
}
