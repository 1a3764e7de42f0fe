package domain_test

import (
	"fmt"
	"math"
	"slices"
	"strconv"
	"testing"

	"berth/api"
	"berth/cluster"
	"berth/domain"
)

// P9.1: New keeps nothing; so does Build of a nil cluster and of an empty one. They are Domains that can be changed.
func TestNew(t *testing.T) {
	for what, d := range map[string]*domain.Domains{
		"New": domain.New(), "Build of nil": domain.Build(nil), "Build of an empty one": domain.Build(cluster.New()),
	} {
		if d == nil {
			t.Fatalf("%s: nil", what)
		}
		b := both{t, d, newModel()}
		b.check(what)
		answers(t, what, b.addNode(0, tags("zone", "a")...), api.OK)
		answers(t, what, b.addPod(0, 0, tags("app", "web")...), api.OK)
		b.check(what + ", changed")
	}
	b := made(t)
	b.addNode(1, tags("zone", "a")...)
	if len(domain.New().Keys()) != 0 {
		t.Error("two that New made share what they keep")
	}
}

// modelOf is what Build of a cluster must keep.
func modelOf(c *cluster.Cluster) *model {
	m := newModel()
	for _, name := range c.Nodes() {
		n, _ := c.Node(name)
		slot, _ := c.Slot(name)
		m.nodes[slot] = n.Labels
	}
	for _, name := range c.Pods() {
		p, host, _ := c.Pod(name)
		slot, _ := c.PodSlot(name)
		at, _ := c.Slot(host)
		m.pods[slot] = bound{p.Labels, at}
	}
	return m
}

// accepted is a change of a cluster's call that must be accepted.
func accepted(t *testing.T) func(ch api.Change, err error) api.Change {
	return func(ch api.Change, err error) api.Change {
		t.Helper()
		if err != nil {
			t.Fatal(err)
		}
		return ch
	}
}

// P9.1: Build keeps the nodes and the bound pods by their slots, which aren't in the order of their names and have gaps.
func TestBuild(t *testing.T) {
	c, ok := cluster.New(), accepted(t)
	for i, name := range []string{"z", "gone", "b", "a", "x"} {
		ok(c.Add(api.Node{Name: name, Labels: tags("zone", strconv.Itoa(i%2), "disk", name), Cordoned: i == 2}))
	}
	for i, name := range []string{"q", "r", "p", "o", "n", "m"} {
		ok(c.Bind(api.Pod{Name: name, Labels: tags("tier", "", "app", name), Priority: i}, []string{"b", "z", "b", "a"}[i%4]))
	}
	ok(c.Unbind("p"))
	ok(c.Unbind("r"))
	ok(c.Remove("gone"))
	d := domain.Build(c)
	b := both{t, d, modelOf(c)}
	b.check("built")
	if got := d.Pods("zone", "0").Members(); !slices.Equal(got, []int{0, 4, 5}) {
		t.Errorf("Pods: %v", got)
	}
	is(t, "Nodes", d.Nodes("zone", "0"), api.MaxNodes, []int{0, 2, 4})
	ok(c.Label("z", "zone", "9"))
	ok(c.Unbind("q"))
	b.check("the cluster has changed later")
	answers(t, "a change behind Build", b.setNode(0, tags("zone", "1")...), api.OK)
	b.check("changed")
	if n, _ := c.Node("z"); !slices.Equal(n.Labels, tags("disk", "z", "zone", "9")) {
		t.Errorf("the cluster's node has become %v", n)
	}
}

// P9.1: a cluster with as many nodes and pods as there may be, each with as many labels as it may have on one of them.
func TestBuildFull(t *testing.T) {
	c, ok := cluster.New(), accepted(t)
	for i := range api.MaxNodes {
		n := api.Node{Name: "n" + strconv.Itoa(i), Labels: tags("rack", strconv.Itoa(i/4), "zone", strconv.Itoa(i%3))}
		if i == api.MaxNodes-1 {
			n.Labels = many(api.MaxLabels, "x")
		}
		ok(c.Add(n))
	}
	for i := range api.MaxPods {
		p := api.Pod{Name: "p" + strconv.Itoa(i), Labels: tags("app", strconv.Itoa(i%7))}
		if i%4 == 0 {
			p.Labels = many(api.MaxLabels, strconv.Itoa(i%8))
		}
		ok(c.Bind(p, "n"+strconv.Itoa((api.MaxPods-1-i)/4)))
	}
	d, m := domain.Build(c), modelOf(c)
	for _, l := range tags("zone", "0", "zone", "2", "rack", "0", "rack", "127", "k100", "x", "k131", "x", "k131", "y") {
		is(t, "Nodes", d.Nodes(l.Key, l.Value), api.MaxNodes, m.nodesIn(l.Key, l.Value))
		is(t, "Pods", d.Pods(l.Key, l.Value), api.MaxPods, m.podsIn(l.Key, l.Value))
		for _, has := range tags("app", "0", "app", "6", "k100", "0", "k131", "4") {
			if got, want := d.Count(l.Key, l.Value, has.Key, has.Value), m.count(l.Key, l.Value, has); got != want {
				t.Errorf("Count of %v in %v: %d, want %d", has, l, got, want)
			}
		}
	}
	odd := set(t, api.MaxPods)
	for i := 1; i < api.MaxPods; i += 2 {
		odd.Add(i)
	}
	gives(t, "Values", d.Values("rack"), m.values("rack"))
	gives(t, "Tally", d.Tally("zone", odd), m.tally("zone", odd))
	is(t, "Near", d.Near("k131", odd), api.MaxNodes, []int{api.MaxNodes - 1})
	is(t, "Ranked", d.Ranked("rack", odd, api.CmpLt, 8), api.MaxNodes, m.ranked("rack", odd, api.CmpLt, 8))
	for _, ch := range []api.Change{nodeAdd(api.MaxNodes), nodeAdd(0), podAdd(api.MaxPods, 0), podAdd(0, 0)} {
		answers(t, "a change of a full one", d.Apply(ch), api.ErrDomain)
	}
}

// R7, P9.2, P9.9: a nil Domains answers in every call as one that New made, and can't be changed: ErrNil ahead of all else.
func TestNil(t *testing.T) {
	var none *domain.Domains
	check(t, "nil", none, newModel())
	for _, ch := range []api.Change{
		{}, {Kind: 99}, nodeAdd(0), nodeAdd(-1), nodeAdd(0, tags("", "")...), nodeSet(0), nodeDel(0), podAdd(0, 0), podDel(0, 0), podDel(-1, math.MaxInt),
	} {
		answers(t, fmt.Sprint("Apply ", ch), none.Apply(ch), api.ErrNil)
	}
	check(t, "nil behind Apply", none, newModel())
	same(t, "nil and nil", none, nil, true)
	same(t, "nil and new", none, domain.New(), true)
	same(t, "nil and built", none, domain.Build(nil), true)
}

// The numbers of the errors.
func TestErrorNumbers(t *testing.T) {
	if api.ErrNil != 1 || api.ErrDomain != 90 {
		t.Error(api.ErrNil, api.ErrDomain)
	}
}
