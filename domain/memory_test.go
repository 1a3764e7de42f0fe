package domain_test

import (
	"fmt"
	"reflect"
	"slices"
	"testing"

	"berth/api"
	"berth/bitset"
	"berth/cluster"
	"berth/domain"
)

// roomy is the list with spare room behind it that is filled.
func roomy(list []api.Label) []api.Label {
	whole := append(slices.Clone(list), tags("over", "over", "over", "over")...)
	return whole[:len(list):len(whole)]
}

// overwrite writes into every place of a list, spare room included.
func overwrite[T any](list []T, with T) {
	list = list[:cap(list)]
	for i := range list {
		list[i] = with
	}
}

// fill changes a set in a way that is another one each time.
func fill(s *bitset.Set, turn int) {
	for place := range s.Size() {
		if turn%2 == 0 {
			s.Add(place)
		} else {
			s.Remove(place)
		}
	}
	if turn%3 == 0 {
		s.Grow(3000)
		s.Add(2999)
	}
}

// sets is every set that a Domains tells of a few keys, values and pods.
func sets(d *domain.Domains, pods *bitset.Set) []*bitset.Set {
	var all []*bitset.Set
	for _, key := range []string{"zone", "disk", "none"} {
		all = append(all, d.Near(key, pods), d.Near(key, nil))
		for _, value := range []string{"a", "b", "ssd", "none"} {
			all = append(all, d.Nodes(key, value), d.Pods(key, value))
		}
		for _, cmp := range cmps[:7] {
			all = append(all, d.Ranked(key, pods, cmp, 1), d.Ranked(key, nil, cmp, 0))
		}
	}
	return all
}

// P9.2, R6: the lists of a change are neither written into, spare room included, nor kept: the caller may write over them.
func TestListsHandedIn(t *testing.T) {
	b := example(t)
	right, wrong := tags("app", "x", "zone", "a"), tags("zone", "a", "app", "x")
	for i, list := range [][]api.Label{right, wrong, right} {
		for kind := api.ChangeNodeAdd; kind <= api.ChangePodDel; kind++ {
			for slot := range 6 {
				was, now, pod := roomy(list), roomy(list), roomy(list)
				ch := api.Change{Kind: kind, Slot: slot, PodSlot: slot + i}
				ch.Was.Labels, ch.Now.Labels, ch.Pod.Labels = was, now, pod
				b.apply(ch)
				whole := append(slices.Clone(list), tags("over", "over", "over", "over")...)
				for _, given := range [][]api.Label{was, now, pod} {
					if !slices.Equal(given[:4], whole) {
						t.Fatalf("%+v has written into %v", ch, given[:4])
					}
					overwrite(given, api.Label{Key: "over", Value: "over"})
				}
			}
			b.check(fmt.Sprint("kind ", kind, " of list ", i))
		}
	}
}

// P9.2, R6: of a caller who writes over the lists that were handed in nothing is seen, neither by Same nor when nodes and pods are set or go later.
func TestListsWrittenOver(t *testing.T) {
	a, b := made(t), made(t)
	for slot := range 3 {
		a.addNode(slot, tags("zone", "a")...)
		a.addPod(slot, slot, tags("app", "web", "tier", "x")...)
		host, pod := tags("zone", "a"), tags("app", "web", "tier", "x")
		b.addNode(slot, host...)
		b.addPod(slot, slot, pod...)
		overwrite(host, api.Label{Key: "over", Value: "over"})
		overwrite(pod, api.Label{Key: "over", Value: "over"})
		same(t, "written over", a.d, b.d, true)
	}
	list := tags("disk", "x", "zone", "b")
	b.setNode(0, list...)
	overwrite(list, api.Label{Key: "over", Value: "over"})
	a.setNode(0, tags("disk", "x", "zone", "b")...)
	same(t, "set and written over", a.d, b.d, true)
	b.check("set and written over")
	b.setNode(0, tags("zone", "c")...)
	b.setNode(1)
	b.check("set again")
	b.dropPod(0, 0)
	b.dropPod(2, 2)
	b.check("pods have gone")
	b.dropNode(0)
	b.check("a node has gone")
}

// R6: the sets that are handed in stay as they are, and are not kept.
func TestSetsHandedIn(t *testing.T) {
	b := example(t)
	pods := set(t, 5, 0, 3, 4)
	near, ranked := b.d.Near("zone", pods), b.d.Ranked("zone", pods, api.CmpEq, 1)
	walk := b.d.Tally("zone", pods)
	is(t, "the set", pods, 5, []int{0, 3, 4})
	fill(pods, 1)
	fill(pods, 3)
	is(t, "Near", near, api.MaxNodes, []int{0, 1, 2})
	is(t, "Ranked", ranked, api.MaxNodes, []int{0, 1, 2})
	gives(t, "Tally", walk, []step{{"a", 1}, {"b", 1}})
	b.check("the set is overwritten")
}

// R6: the lists that Keys answers, spare room included, are new ones: who writes over them changes nothing.
func TestListsAnswered(t *testing.T) {
	b := example(t)
	var seen [][]string
	for range 3 {
		keys := b.d.Keys()
		for _, other := range seen {
			if overlap(keys, other) {
				t.Error("Keys answers memory that was answered before")
			}
		}
		seen = append(seen, keys)
		overwrite(keys, "over")
		b.check("Keys is overwritten")
		b.setNode(3, tags("rack", "1")...)
	}
}

// overlap: do two lists, spare room included, share a byte?
func overlap(a, b any) bool {
	from, to := bounds(reflect.ValueOf(a))
	begin, end := bounds(reflect.ValueOf(b))
	return from < end && begin < to
}

// bounds is where a list with its spare room begins and ends.
func bounds(list reflect.Value) (from, to uintptr) {
	from = list.Pointer()
	return from, from + uintptr(list.Cap())*list.Type().Elem().Size()
}

// P9.5, P9.6, P9.8, R6: every set that is answered is a new one: who fills it, empties it or makes it greater changes neither the Domains, nor another set, nor the one that was handed in.
func TestNoSetIsShared(t *testing.T) {
	b := example(t)
	pods := set(t, api.MaxPods, 0, 1, 2)
	seen := append(sets(b.d, pods), sets(b.d, pods)...)
	for i, s := range seen {
		if s == pods || slices.Contains(seen[:i], s) {
			t.Fatalf("set %d was handed in or answered before", i)
		}
	}
	var was [][]int
	for _, s := range seen {
		was = append(was, s.Members())
	}
	for i, s := range seen {
		fill(s, i)
		for j := i + 1; j < len(seen); j++ {
			if !slices.Equal(seen[j].Members(), was[j]) {
				t.Fatalf("set %d has become %v by a change of set %d", j, seen[j].Members(), i)
			}
		}
		is(t, "the set that was handed in", pods, api.MaxPods, []int{0, 1, 2})
		if i%10 == 0 {
			b.check(fmt.Sprint("set ", i, " is overwritten"))
		}
	}
	b.check("all sets are overwritten")
}

// R6: what was answered stays as it was, whatever is changed later.
func TestAnswersStay(t *testing.T) {
	b := example(t)
	told := sets(b.d, set(t, 3, 0, 1, 2))
	var was [][]int
	for _, s := range told {
		was = append(was, s.Members())
	}
	keys := b.d.Keys()
	b.setNode(0, tags("disk", "ssd", "zone", "b")...)
	b.addNode(9, tags("aaa", "", "zone", "a")...)
	b.addPod(9, 2, tags("app", "web")...)
	b.dropPod(1, 2)
	b.setNode(1)
	b.setNode(2, tags("rack", "1")...)
	for i, s := range told {
		if !slices.Equal(s.Members(), was[i]) {
			t.Errorf("set %d has become %v, was %v", i, s.Members(), was[i])
		}
	}
	if !slices.Equal(keys, []string{"disk", "zone"}) {
		t.Errorf("Keys has become %q", keys)
	}
	b.check("changed")
}

// P9.1, P9.9, R6: neither Build nor Same changes what it is handed; what Build made goes its own way.
func TestBuildIsApart(t *testing.T) {
	c, ok := cluster.New(), accepted(t)
	ok(c.Add(api.Node{Name: "a", Labels: tags("zone", "x")}))
	ok(c.Bind(api.Pod{Name: "p", Labels: tags("app", "web")}, "a"))
	one, two := both{t, domain.Build(c), modelOf(c)}, both{t, domain.Build(c), modelOf(c)}
	same(t, "built twice", one.d, two.d, true)
	one.dropPod(0, 0)
	one.setNode(0, tags("zone", "y")...)
	same(t, "one has changed", one.d, two.d, false)
	one.check("the one")
	two.check("the other")
	check(t, "built later", domain.Build(c), two.m)
	if _, node, there := c.Pod("p"); node != "a" || !there {
		t.Error("the cluster's pod has gone")
	}
}

// R5: an empty list may be nil or empty: both mean the same.
func TestEmptyLists(t *testing.T) {
	a, b := made(t), made(t)
	a.apply(nodeAdd(0))
	b.apply(api.Change{Kind: api.ChangeNodeAdd, Now: api.Node{Labels: []api.Label{}}})
	a.apply(podAdd(0, 0))
	b.apply(api.Change{Kind: api.ChangePodAdd, Pod: api.Pod{Labels: []api.Label{}}})
	same(t, "nil and empty", a.d, b.d, true)
	a.setNode(0, tags("zone", "a")...)
	a.apply(api.Change{Kind: api.ChangeNodeSet, Now: api.Node{Labels: []api.Label{}}})
	same(t, "set to the empty list", a.d, b.d, true)
	a.check("empty lists")
}
