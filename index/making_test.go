package index_test

import (
	"fmt"
	"math"
	"slices"
	"strconv"
	"testing"

	"berth/api"
	"berth/cluster"
	"berth/index"
)

// three is the index of the chapter's first example.
func three(t *testing.T) both {
	t.Helper()
	b := made(t)
	b.does(nodeAdd(0, api.Node{Name: "a", Labels: tags("rank", "3", "zone", "x"), Cap: items("cpu", 4)}))
	b.does(nodeAdd(2, api.Node{Name: "b", Labels: tags("zone", "x"), Taints: marks("gpu", "", api.NoSchedule)}))
	b.does(nodeAdd(1, api.Node{Name: "c", Labels: tags("rank", "x"), Cordoned: true}))
	return b
}

// P10.5 to P10.8: the first example.
func TestExampleNodes(t *testing.T) {
	b := three(t)
	x := b.x
	is(t, "Live", x.Live(api.OfNode), api.MaxNodes, []int{0, 1, 2})
	is(t, "Live", x.Live(api.OfIt), api.MaxPods, nil)
	if s := x.Live(api.Fixed); s == nil || s.Count() != 0 {
		t.Errorf("Live(Fixed): %v", s)
	}
	is(t, "Label", x.Label(api.OfNode, "zone", []string{"y", "x"}), api.MaxNodes, []int{0, 2})
	is(t, "Has", x.Has(api.OfNode, []string{"rank"}), api.MaxNodes, []int{0, 1})
	is(t, "Number", x.Number(api.OfNode, "rank", api.CmpNe, 9), api.MaxNodes, []int{0})
	is(t, "Cap", x.Cap("cpu", api.CmpLt, 4), api.MaxNodes, []int{1, 2})
	is(t, "CapIn", x.CapIn("cpu", []int{0, 4}), api.MaxNodes, []int{0, 1, 2})
	is(t, "Tolerated", x.Tolerated(nil, api.NoSchedule), api.MaxNodes, []int{0, 1})
	is(t, "Tolerated", x.Tolerated(nil, api.PreferNoSchedule), api.MaxNodes, []int{0, 1, 2})
	is(t, "Open", x.Open(), api.MaxNodes, []int{0, 2})
	b.check("the first example")
}

// P10.9, P10.10: the second.
func TestExamplePods(t *testing.T) {
	b := three(t)
	b.does(podAdd(5, 2, "p", tags("app", "web")...))
	x := b.x
	is(t, "Live", x.Live(api.OfIt), api.MaxPods, []int{5})
	is(t, "Near", x.Near("zone", set(t, 6, 5)), api.MaxNodes, []int{0, 2})
	is(t, "Near", x.Near("rank", set(t, 6, 5)), api.MaxNodes, nil)
	is(t, "Count", x.Count("zone", set(t, 6), api.CmpEq, 0), api.MaxNodes, []int{0, 2})
	is(t, "Count", x.Count("zone", set(t, 7, 5, 6), api.CmpGe, 1), api.MaxNodes, []int{0, 2})
	for _, c := range []struct {
		slot  int
		value string
		n     int
		ok    bool
	}{{0, "web", 1, true}, {1, "web", 0, false}, {0, "db", 0, true}} {
		if n, ok := x.With("zone", c.slot, "app", c.value); n != c.n || ok != c.ok {
			t.Errorf("With(zone, %d, app, %s): %d, %v", c.slot, c.value, n, ok)
		}
	}
	b.check("the second example")
}

// P10.2: the third.
func TestExampleFits(t *testing.T) {
	b := three(t)
	b.does(podAdd(5, 2, "p", tags("app", "web")...))
	b.refuses("a pod stands there", nodeDel(2))
	b.refuses("the slot of another node", podDel(5, 0))
	b.does(podDel(5, 2))
	b.refuses("the name", nodeAdd(3, named("a")))
	b.check("the third example")
}

// P10.1: New has no rows; so has Build of a nil cluster and of an empty one. They can be changed, and keep apart.
func TestNew(t *testing.T) {
	for what, x := range map[string]*index.Index{
		"New": index.New(), "Build of nil": index.Build(nil), "Build of an empty one": index.Build(cluster.New()),
	} {
		if x == nil {
			t.Fatalf("%s: nil", what)
		}
		b := both{t, x, newModel()}
		b.check(what)
		b.does(nodeAdd(0, named("a", "zone", "x")))
		b.does(podAdd(0, 0, "p", tags("app", "web")...))
		b.check(what + ", changed")
	}
	b := made(t)
	b.does(nodeAdd(1, named("a")))
	check(t, "another one", index.New(), newModel())
}

// modelOf is the rows that Build of a cluster must have.
func modelOf(c *cluster.Cluster) *model {
	m := newModel()
	for _, name := range c.Nodes() {
		n, _ := c.Node(name)
		slot, _ := c.Slot(name)
		m.nodes[slot] = n
	}
	for _, name := range c.Pods() {
		p, host, _ := c.Pod(name)
		slot, _ := c.PodSlot(name)
		at, _ := c.Slot(host)
		m.pods[slot] = bound{name, p.Labels, at}
	}
	return m
}

// accepted is the change of a cluster's call that must be accepted.
func accepted(t *testing.T) func(ch api.Change, err error) api.Change {
	return func(ch api.Change, err error) api.Change {
		t.Helper()
		if err != nil {
			t.Fatal(err)
		}
		return ch
	}
}

// P10.1: Build has the nodes and the bound pods in their slots, which aren't in the order of their names and have gaps. What the cluster does later isn't seen, nor is it changed.
func TestBuild(t *testing.T) {
	c, ok := cluster.New(), accepted(t)
	for i, name := range []string{"z", "gone", "b", "a", "n1"} {
		ok(c.Add(api.Node{Name: name, Labels: tags("zone", []string{"x", "y"}[i%2], "disk", name, "rank", strconv.Itoa(i)), Taints: marks("gpu", name, effects[i%3], "disk", "", api.NoExecute), Cap: items("mem", i, "cpu", 4), Cordoned: i == 2}))
	}
	for i, name := range []string{"q", "r", "p", "o", "a", "p1"} {
		ok(c.Bind(api.Pod{Name: name, Labels: tags("tier", "", "app", []string{"web", "db"}[i%2]), Priority: i, Require: "("}, []string{"b", "z", "b", "a"}[i%4]))
	}
	ok(c.Unbind("p"))
	ok(c.Unbind("r"))
	ok(c.Remove("gone"))
	x := index.Build(c)
	b := both{t, x, modelOf(c)}
	b.check("built")
	is(t, "Live", x.Live(api.OfNode), api.MaxNodes, []int{0, 2, 3, 4})
	is(t, "Live", x.Live(api.OfIt), api.MaxPods, []int{0, 3, 4, 5})
	is(t, "Near", x.Near("disk", set(t, 6, 3, 5)), api.MaxNodes, []int{0, 3})
	ok(c.Label("z", "zone", "9"))
	ok(c.Unbind("q"))
	b.check("the cluster has changed later")
	b.does(nodeSet(0, named("z", "zone", "y")))
	b.does(podDel(0, 2))
	b.check("changed")
	if n, _ := c.Node("z"); !slices.Equal(n.Labels, tags("disk", "z", "rank", "0", "zone", "9")) || len(n.Taints) != 2 {
		t.Errorf("the cluster's node has become %v", n)
	}
}

// P10.1: a cluster with as many nodes and pods as there may be, some with as many labels, taints and resources as they may have.
func TestBuildFull(t *testing.T) {
	c, ok := cluster.New(), accepted(t)
	for i := range api.MaxNodes {
		n := named("n"+strconv.Itoa(i), "rank", strconv.Itoa(i/4), "zone", strconv.Itoa(i%3))
		if i == api.MaxNodes-1 {
			n.Labels = many(api.MaxLabels, "x")
			for j := range api.MaxTaints {
				n.Taints = append(n.Taints, api.Taint{Key: "t" + strconv.Itoa(j), Effect: effects[j%3]})
			}
			for j := range api.MaxItems {
				n.Cap = append(n.Cap, api.Item{Name: "r" + strconv.Itoa(j), N: api.MaxAmount - j})
			}
		}
		ok(c.Add(n))
	}
	for i := range api.MaxPods {
		ok(c.Bind(api.Pod{Name: "p" + strconv.Itoa(i), Labels: tags("app", strconv.Itoa(i%7), "rank", strconv.Itoa(-i))}, "n"+strconv.Itoa((api.MaxPods-1-i)/4)))
	}
	x, m := index.Build(c), modelOf(c)
	is(t, "Live", x.Live(api.OfNode), api.MaxNodes, m.live(api.OfNode))
	is(t, "Live", x.Live(api.OfIt), api.MaxPods, m.live(api.OfIt))
	is(t, "Name", x.Name(api.OfIt, []string{"p2047", "p0", "p2048"}), api.MaxPods, []int{0, api.MaxPods - 1})
	is(t, "Number", x.Number(api.OfNode, "rank", api.CmpGe, 126), api.MaxNodes, m.number(api.OfNode, "rank", so(api.CmpGe, 126)))
	is(t, "Number", x.Number(api.OfIt, "rank", api.CmpLe, -2000), api.MaxPods, m.number(api.OfIt, "rank", so(api.CmpLe, -2000)))
	is(t, "Cap", x.Cap("r0", api.CmpEq, api.MaxAmount), api.MaxNodes, []int{api.MaxNodes - 1})
	is(t, "Tainted", x.Tainted([]string{"t15"}), api.MaxNodes, []int{api.MaxNodes - 1})
	odd := x.NumberIn(api.OfIt, "rank", []int{-1, -3, -4, -2047})
	is(t, "Near", x.Near("zone", odd), api.MaxNodes, m.count("zone", odd, so(api.CmpGt, 0)))
	is(t, "CountIn", x.CountIn("rank", odd, []int{1, 3}), api.MaxNodes, m.count("rank", odd, among([]int{1, 3})))
	for _, slot := range []int{0, 4, api.MaxNodes - 1} {
		n, has := m.with("zone", slot, api.Label{Key: "app", Value: "5"})
		if got, there := x.With("zone", slot, "app", "5"); got != n || there != has {
			t.Errorf("With at %d: %d, %v, want %d, %v", slot, got, there, n, has)
		}
	}
	for _, ch := range []api.Change{nodeAdd(api.MaxNodes, named("x")), nodeAdd(0, named("x")), podAdd(api.MaxPods, 0, "x"), podAdd(0, 0, "x")} {
		answers(t, "a change of a full one", x.Apply(ch), api.ErrChange)
	}
}

// R7, P10.2, P10.3: a nil index answers in every call as one without rows, and can't be changed: ErrNil ahead of all else.
func TestNil(t *testing.T) {
	var none *index.Index
	check(t, "nil", none, newModel())
	for _, ch := range []api.Change{
		{}, {Kind: 77}, nodeAdd(0, named("a")), nodeAdd(-1, named("_")), nodeSet(0, named("a")), nodeDel(0), podAdd(0, 0, "p"), podDel(0, 0), podDel(-1, math.MaxInt),
	} {
		answers(t, fmt.Sprint("Apply ", ch), none.Apply(ch), api.ErrNil)
	}
	check(t, "nil behind Apply", none, newModel())
	same(t, "nil and nil", none, nil, true)
	same(t, "nil and new", none, index.New(), true)
	same(t, "nil and built", none, index.Build(nil), true)
	same(t, "nil and not empty", none, three(t).x, false)
}

// The numbers of the errors.
func TestErrorNumbers(t *testing.T) {
	if api.ErrNil != 1 || api.ErrChange != 100 {
		t.Error(api.ErrNil, api.ErrChange)
	}
}
