package domain_test

import (
	"testing"

	"berth/api"
	"berth/domain"
)

// same holds Same of two, in both orders, to what it must be.
func same(t *testing.T, what string, a, b *domain.Domains, want bool) {
	t.Helper()
	if domain.Same(a, b) != want || domain.Same(b, a) != want {
		t.Errorf("%s: Same is %v and %v, want %v", what, domain.Same(a, b), domain.Same(b, a), want)
	}
	if !domain.Same(a, a) || !domain.Same(b, b) {
		t.Errorf("%s: one isn't the same as itself", what)
	}
}

// P9.9: of those that keep nothing, nil ones too.
func TestSameEmpty(t *testing.T) {
	same(t, "nil", nil, nil, true)
	b := made(t)
	same(t, "new and nil", b.d, nil, true)
	same(t, "new ones", b.d, made(t).d, true)
	b.addNode(0)
	same(t, "a node without labels and nil", b.d, nil, false)
	same(t, "a node without labels and new", b.d, made(t).d, false)
	b.addPod(0, 0)
	b.dropPod(0, 0)
	b.dropNode(0)
	same(t, "emptied and nil", b.d, nil, true)
	b.addNode(-1)
	same(t, "refused and nil", b.d, nil, true)
}

// P9.9: the same nodes and pods by another road, with others that come and go between.
func TestSameByAnotherRoad(t *testing.T) {
	a, b := example(t), made(t)
	b.addNode(9, many(api.MaxLabels, "x")...)
	b.addNode(3, tags("zone", "c")...)
	b.addPod(2, 3, tags("app", "web")...)
	b.addPod(7, 9, tags("app", "web")...)
	b.addNode(2, tags("disk", "hdd", "rack", "1")...)
	b.addPod(1, 2)
	b.addNode(1, tags("zone", "a")...)
	b.addPod(3, 1, tags("app", "db")...)
	b.addNode(0, tags("zone", "a")...)
	b.addPod(0, 1, tags("app", "web")...)
	same(t, "half way", a.d, b.d, false)
	b.dropPod(1, 2)
	b.setNode(3)
	b.setNode(1, tags("zone", "b")...)
	b.setNode(2, tags("disk", "ssd", "zone", "a")...)
	b.addPod(1, 2, tags("app", "web")...)
	b.dropPod(0, 1)
	b.addPod(0, 0, tags("app", "web")...)
	same(t, "a node and a pod too many", a.d, b.d, false)
	b.dropPod(7, 9)
	same(t, "a node too many", a.d, b.d, false)
	b.dropNode(9)
	same(t, "by another road", a.d, b.d, true)
	b.addNode(3)
	b.dropNode(0)
	b.addPod(0, 0)
	b.dropPod(0, 1)
	b.setNode(0, tags("zone", "_")...)
	same(t, "behind refused changes", a.d, b.d, true)
	a.check("the one")
	b.check("the other")
}

// P9.9: each thing that is kept, if it differs, makes two unlike; to put it right makes them the same again.
func TestUnlike(t *testing.T) {
	base := func() both {
		b := made(t)
		b.addNode(1, tags("disk", "ssd", "zone", "a")...)
		b.addNode(3, tags("zone", "b")...)
		b.addNode(5)
		b.addPod(0, 1, tags("app", "web", "tier", "x")...)
		b.addPod(7, 3, tags("app", "web")...)
		b.addPod(8, 3)
		return b
	}
	moved := func(b both, slot, from, to int, list ...api.Label) {
		b.dropPod(slot, from)
		b.addPod(slot, to, list...)
	}
	for what, change := range map[string]func(b both){
		"a node more":                 func(b both) { b.addNode(0) },
		"the last node more":          func(b both) { b.addNode(api.MaxNodes-1, tags("zone", "b")...) },
		"a node less":                 func(b both) { b.dropNode(5) },
		"a node's slot":               func(b both) { b.dropNode(5); b.addNode(4) },
		"a node's first label":        func(b both) { b.setNode(5, tags("zone", "")...) },
		"a node's label more":         func(b both) { b.setNode(3, tags("rack", "1", "zone", "b")...) },
		"a node's label less":         func(b both) { b.setNode(1, tags("disk", "ssd")...) },
		"a node's labels gone":        func(b both) { b.setNode(3) },
		"a node's value":              func(b both) { b.setNode(3, tags("zone", "a")...) },
		"a node's empty value":        func(b both) { b.setNode(3, tags("zone", "")...) },
		"a node's key":                func(b both) { b.setNode(3, tags("rack", "b")...) },
		"a node's values about":       func(b both) { b.setNode(1, tags("disk", "a", "zone", "ssd")...) },
		"two nodes' labels about":     func(b both) { b.setNode(3, tags("disk", "ssd", "zone", "a")...); b.setNode(1, tags("zone", "b")...) },
		"a pod more":                  func(b both) { b.addPod(1, 1) },
		"the last pod more":           func(b both) { b.addPod(api.MaxPods-1, 5, tags("app", "web")...) },
		"a pod less":                  func(b both) { b.dropPod(8, 3) },
		"a pod's slot":                func(b both) { b.dropPod(8, 3); b.addPod(9, 3) },
		"a pod's node":                func(b both) { moved(b, 8, 3, 1) },
		"a pod's node without labels": func(b both) { moved(b, 8, 3, 5) },
		"a pod's first label":         func(b both) { moved(b, 8, 3, 3, tags("app", "")...) },
		"a pod's label more":          func(b both) { moved(b, 7, 3, 3, tags("app", "web", "tier", "x")...) },
		"a pod's label less":          func(b both) { moved(b, 0, 1, 1, tags("app", "web")...) },
		"a pod's value":               func(b both) { moved(b, 7, 3, 3, tags("app", "db")...) },
		"a pod's key":                 func(b both) { moved(b, 7, 3, 3, tags("tier", "web")...) },
		"two pods' slots about":       func(b both) { b.dropPod(7, 3); moved(b, 8, 3, 3, tags("app", "web")...); b.addPod(7, 3) },
		"two pods' nodes about":       func(b both) { moved(b, 0, 1, 3, tags("app", "web", "tier", "x")...); moved(b, 8, 3, 1) },
	} {
		a, b := base(), base()
		same(t, "ahead of "+what, a.d, b.d, true)
		change(b)
		same(t, what, a.d, b.d, false)
		b.check(what)
		change(a)
		same(t, what+" of both", a.d, b.d, true)
	}
}

// P9.9: one node with two in a domain and its like that came by a set of labels from none at all.
func TestSameByLabels(t *testing.T) {
	a, b := made(t), made(t)
	a.addNode(0, tags("rack", "1", "zone", "a")...)
	a.addPod(0, 0, tags("app", "web")...)
	b.addNode(0)
	b.addPod(0, 0, tags("app", "web")...)
	for _, list := range [][]api.Label{many(api.MaxLabels, "x"), nil, tags("zone", "b"), tags("rack", "1"), tags("rack", "1", "zone", "a")} {
		same(t, "on the way", a.d, b.d, false)
		b.setNode(0, list...)
		b.check("on the way")
	}
	same(t, "there", a.d, b.d, true)
}
