package index_test

import (
	"fmt"
	"slices"
	"testing"

	"berth/api"
	"berth/bitset"
	"berth/cluster"
	"berth/index"
)

// roomy is the list with spare room behind it that is filled.
func roomy[T any](list []T, over T) []T {
	whole := append(slices.Clone(list), over, over)
	return whole[:len(list):len(whole)]
}

// overwrite writes into every place of a list, spare room included.
func overwrite[T any](list []T, with T) {
	list = list[:cap(list)]
	for i := range list {
		list[i] = with
	}
}

// untouched holds a list that roomy made to what it was, spare room included.
func untouched[T comparable](t *testing.T, what string, list, was []T, over T) {
	t.Helper()
	if !slices.Equal(list[:len(was)+2], append(slices.Clone(was), over, over)) {
		t.Fatalf("%s has written into %v", what, list[:len(was)+2])
	}
}

var (
	overLabel      = api.Label{Key: "over", Value: "over"}
	overTaint      = api.Taint{Key: "over", Value: "over", Effect: api.NoExecute}
	overItem       = api.Item{Name: "over", N: 7}
	overToleration = api.Toleration{Op: api.Exists}
)

// roomyNode is the node with lists that have spare room.
func roomyNode(n api.Node) api.Node {
	n.Labels, n.Taints, n.Cap = roomy(n.Labels, overLabel), roomy(n.Taints, overTaint), roomy(n.Cap, overItem)
	return n
}

func overwriteNode(n api.Node) {
	overwrite(n.Labels, overLabel)
	overwrite(n.Taints, overTaint)
	overwrite(n.Cap, overItem)
}

func untouchedNode(t *testing.T, what string, n, was api.Node) {
	t.Helper()
	untouched(t, what, n.Labels, was.Labels, overLabel)
	untouched(t, what, n.Taints, was.Taints, overTaint)
	untouched(t, what, n.Cap, was.Cap, overItem)
}

// P10.2, R6: the lists of a change are neither written into, spare room included, nor kept: the caller may write over them behind its Apply.
func TestChangesHandedIn(t *testing.T) {
	b, plain := made(t), made(t)
	full := api.Node{Name: "a", Labels: tags("rank", "3", "zone", "x"), Taints: marks("disk", "", api.NoExecute, "gpu", "x", api.NoSchedule), Cap: items("cpu", 4, "mem", 8)}
	wrong := api.Node{Name: "a", Labels: tags("zone", "x", "rank", "3"), Taints: marks("gpu", "x", api.NoSchedule, "disk", "", api.NoExecute), Cap: items("mem", 8, "cpu", 4)}
	other := api.Node{Name: "a", Labels: tags("app", "web", "rank", "7"), Taints: marks("gpu", "", api.NoSchedule), Cap: items("cpu", 8)}
	for i, c := range []struct {
		kind api.ChangeKind
		now  api.Node
		pod  string
	}{
		{api.ChangeNodeAdd, wrong, "p"}, {api.ChangeNodeAdd, full, "p"}, {api.ChangePodAdd, full, "p"}, {api.ChangePodAdd, wrong, "q"},
		{api.ChangeNodeSet, wrong, "p"}, {api.ChangeNodeSet, other, "p"}, {api.ChangeNodeSet, full, "p"}, {api.ChangeNodeDel, full, "p"},
		{0, full, "p"}, {api.ChangePodDel, full, "p"}, {api.ChangePodAdd, full, "q"}, {api.ChangePodDel, full, "q"}, {api.ChangeNodeDel, full, "p"},
	} {
		list := c.now.Labels
		ch := api.Change{Kind: c.kind, Was: roomyNode(c.now), Now: roomyNode(c.now), Pod: api.Pod{Name: c.pod, Labels: roomy(list, overLabel), Needs: roomy(items("cpu", 1), overItem)}}
		b.apply(ch)
		what := fmt.Sprint("change ", i)
		untouchedNode(t, what, ch.Was, c.now)
		untouchedNode(t, what, ch.Now, c.now)
		untouched(t, what, ch.Pod.Labels, list, overLabel)
		untouched(t, what, ch.Pod.Needs, items("cpu", 1), overItem)
		overwriteNode(ch.Was)
		overwriteNode(ch.Now)
		overwrite(ch.Pod.Labels, overLabel)
		plain.apply(api.Change{Kind: c.kind, Now: cloned(c.now), Pod: api.Pod{Name: c.pod, Labels: slices.Clone(list)}})
		same(t, what, b.x, plain.x, true)
		b.check(what)
	}
	same(t, "emptied", b.x, nil, true)
}

// asks is every bitmap that an index answers to a few questions.
func asks(x *index.Index, texts []string, ns []int, os []api.Toleration, pods *bitset.Set) []*bitset.Set {
	all := []*bitset.Set{
		x.Tainted(texts), x.Tolerated(os, api.NoSchedule), x.Tolerated(os, ""), x.Open(), x.Open(), x.CapIn("cpu", ns), x.CapIn("none", ns),
		x.Cap("cpu", api.CmpGe, 1), x.Cap("cpu", api.CmpLt, 5), x.Cap("none", api.CmpEq, 0), x.Cap("none", 0, 0),
	}
	for _, of := range sides[:4] {
		all = append(all, x.Live(of), x.Live(of), x.Label(of, "zone", texts), x.Label(of, "app", texts), x.Has(of, texts), x.Name(of, texts), x.Number(of, "rank", api.CmpNe, 9), x.Number(of, "rank", 0, 9), x.NumberIn(of, "rank", ns))
	}
	for _, topo := range []string{"zone", "disk", "none"} {
		all = append(all, x.Near(topo, pods), x.Near(topo, nil), x.Count(topo, pods, api.CmpGe, 0), x.Count(topo, pods, api.CmpEq, 3), x.Count(topo, nil, 9, 0), x.CountIn(topo, pods, ns), x.CountIn(topo, nil, ns))
	}
	return all
}

// R6: lists and bitmaps that are asked with stay as they are, spare room included, and are not kept.
func TestQuestionsHandedIn(t *testing.T) {
	b := ordinary(t)
	texts, ns, os := []string{"zone", "x", "a", "gpu", "a"}, []int{8, 3, 0, 3}, []api.Toleration{{Key: "gpu", Op: api.Exists}, {}}
	these, numbers, bears, pods := roomy(texts, "over"), roomy(ns, 7), roomy(os, overToleration), set(t, 70, 0, 5, 64)
	told := asks(b.x, these, numbers, bears, pods)
	untouched(t, "asking", these, texts, "over")
	untouched(t, "asking", numbers, ns, 7)
	untouched(t, "asking", bears, os, overToleration)
	is(t, "the pods", pods, 70, []int{0, 5, 64})
	was := members(told)
	overwrite(these, "over")
	overwrite(numbers, 7)
	overwrite(bears, overToleration)
	fill(pods, 0)
	if got := members(told); !slices.EqualFunc(got, was, slices.Equal) {
		t.Errorf("what was told has become %v, was %v", got, was)
	}
	b.check("what was handed in is overwritten")
}

func members(sets []*bitset.Set) [][]int {
	var all [][]int
	for _, s := range sets {
		all = append(all, s.Members())
	}
	return all
}

// fill changes a set in a way that is another one each time.
func fill(s *bitset.Set, turn int) {
	for place := range s.Size() {
		if turn%2 == 0 {
			s.Add(place)
		} else {
			s.Remove(place)
		}
	}
	if turn%3 == 0 {
		s.Grow(3000)
		s.Add(2999)
	}
}

// P10.5 to P10.9, R6: every bitmap that is answered is a new one: who fills it, empties it or makes it greater changes neither the index, nor another one, nor the one that was handed in.
func TestNoSetIsShared(t *testing.T) {
	b := ordinary(t)
	pods := set(t, api.MaxPods, 0, 1, 64)
	ask := func() []*bitset.Set {
		return asks(b.x, []string{"zone", "x", "a", "gpu"}, []int{0, 3}, nil, pods)
	}
	seen := append(ask(), ask()...)
	for i, s := range seen {
		if s == nil || s == pods || slices.Contains(seen[:i], s) {
			t.Fatalf("set %d is nil, or was handed in or answered before", i)
		}
	}
	was := members(seen)
	for i, s := range seen {
		fill(s, i)
		if rest := members(seen[i+1:]); !slices.EqualFunc(rest, was[i+1:], slices.Equal) {
			t.Fatalf("by a change of set %d others have become %v", i, rest)
		}
		is(t, "the set that was handed in", pods, api.MaxPods, []int{0, 1, 64})
		if got := members(ask()); !slices.EqualFunc(got, was[:len(got)], slices.Equal) {
			t.Fatalf("by a change of set %d the index tells %v", i, got)
		}
	}
	b.check("all sets are overwritten")
}

// R6: what was answered stays as it was, whatever is changed later.
func TestAnswersStay(t *testing.T) {
	b := ordinary(t)
	told := asks(b.x, []string{"zone", "x", "a", "gpu"}, []int{0, 3}, nil, b.x.Live(api.OfIt))
	was := members(told)
	b.does(nodeSet(0, api.Node{Name: "a", Cordoned: true}))
	b.does(nodeSet(63, api.Node{Name: "d", Labels: tags("rank", "3", "zone", "x"), Taints: marks("gpu", "", api.NoSchedule), Cap: items("cpu", 9)}))
	b.does(nodeAdd(3, named("new", "zone", "x")))
	b.does(podAdd(3, 3, "new", tags("app", "web", "rank", "3")...))
	b.does(podDel(1, 2))
	b.does(nodeDel(2))
	if got := members(told); !slices.EqualFunc(got, was, slices.Equal) {
		t.Errorf("what was told has become %v, was %v", got, was)
	}
	b.check("changed")
}

// P10.1, P10.3, R6: neither Build nor Same changes what it is handed; what Build made goes its own way.
func TestBuildIsApart(t *testing.T) {
	c, ok := cluster.New(), accepted(t)
	ok(c.Add(api.Node{Name: "a", Labels: tags("zone", "x"), Taints: marks("gpu", "", api.NoExecute), Cap: items("cpu", 4)}))
	ok(c.Bind(api.Pod{Name: "p", Labels: tags("app", "web")}, "a"))
	one, two := both{t, index.Build(c), modelOf(c)}, both{t, index.Build(c), modelOf(c)}
	same(t, "built twice", one.x, two.x, true)
	one.does(podDel(0, 0))
	one.does(nodeSet(0, named("a", "zone", "y")))
	same(t, "one has changed", one.x, two.x, false)
	one.check("the one")
	two.check("the other")
	check(t, "built later", index.Build(c), two.m)
	if _, host, there := c.Pod("p"); host != "a" || !there {
		t.Error("the cluster's pod has gone")
	}
}

// R5: an empty list may be nil or empty: both mean the same, in rows and in questions.
func TestEmptyLists(t *testing.T) {
	a, b := made(t), made(t)
	empty := api.Node{Name: "a", Labels: []api.Label{}, Taints: []api.Taint{}, Cap: []api.Item{}}
	a.does(nodeAdd(0, named("a")))
	b.does(nodeAdd(0, empty))
	a.does(podAdd(0, 0, "p"))
	b.does(api.Change{Kind: api.ChangePodAdd, Pod: api.Pod{Name: "p", Labels: []api.Label{}}})
	same(t, "nil and empty", a.x, b.x, true)
	a.does(nodeSet(0, named("a", "zone", "x")))
	a.does(nodeSet(0, empty))
	same(t, "set to empty lists", a.x, b.x, true)
	none, no := asks(a.x, nil, nil, nil, nil), asks(b.x, []string{}, []int{}, []api.Toleration{}, set(t, 0))
	if !slices.EqualFunc(members(none), members(no), slices.Equal) {
		t.Error("nil lists and empty ones are answered otherwise")
	}
	a.check("empty lists")
}
