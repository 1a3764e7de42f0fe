package mean_test

import (
	"fmt"
	"slices"
	"sync"
	"testing"

	"berth/api"
	"berth/cluster"
	"berth/mean"
)

// wide are trees of all kinds: such as are taken, one for each fault, and such as layer 13 refuses.
func wide(t *testing.T) []api.Tree {
	t.Helper()
	out := []api.Tree{
		read(t, `node.name in {"c", "a", "b", "a"} && int(node["gen"]) notin {7, 3, 7}`),
		read(t, `"zone" in node.keys || "k" in node.taints || "b" in pod.keys`),
		read(t, `near("zone", it["app"] in {"web", "db", "db"}) && count("gen", "app" in it.keys) == int(pod["n"])`),
		read(t, `!(apart("zone", it.name == pod.name) && tolerated("NoSchedule")) || node.cap("cpu") in {}`),
		list(or(many(60, yes)...)),
	}
	for _, x := range senseless {
		out = append(out, list(x.tree))
	}
	for _, x := range invalid() {
		out = append(out, x.tree)
	}
	return out
}

// widePod has raw lists of each kind, with spare room.
func widePod() api.Pod {
	return api.Pod{
		Name:        "p",
		Labels:      roomy(labelled("zone", "x", "b", "2", "a", "1", "b", "3", "n", "1"), api.Label{Key: "spare", Value: "spare"}),
		Needs:       roomy([]api.Item{{Name: "mem", N: 2}, {Name: "cpu", N: -1}}, api.Item{Name: "spare", N: 77}),
		Tolerations: roomy([]api.Toleration{{Key: "k", Op: api.Exists}, {Op: "?"}}, api.Toleration{Op: api.Exists}),
		Apart:       roomy([]api.Apart{{Topo: "zone", Select: "true"}}, api.Apart{Topo: "spare"}),
		Prefer:      roomy([]api.Prefer{{Weight: 1, Text: "true"}}, api.Prefer{Text: "spare"}),
	}
}

// roomy is a copy of a list with spare room, which is filled with what no call may touch.
func roomy[T any](list []T, spare T) []T {
	return append(append([]T{}, list...), spare, spare, spare)[:len(list)]
}

func roomyTree(tree api.Tree) api.Tree {
	list := roomy(tree.Parts, api.Part{Kind: 77, Text: "spare", Kids: []int{77}})
	for i := range list {
		list[i].Kids = roomy(list[i].Kids, 77)
	}
	return api.Tree{Parts: list}
}

// whole are a tree and a pod with all that stands in their lists, spare room too, as a text.
func whole(tree api.Tree, pods ...api.Pod) string {
	out := ""
	for _, part := range tree.Parts[:cap(tree.Parts)] {
		out += fmt.Sprintf("%v %q %d %v;", part.Kind, part.Text, part.Num, part.Kids[:cap(part.Kids)])
	}
	for _, p := range pods {
		out += fmt.Sprintf("%q %v %v %v %v %v %q %d;", p.Name, p.Labels[:cap(p.Labels)], p.Needs[:cap(p.Needs)], p.Tolerations[:cap(p.Tolerations)], p.Apart[:cap(p.Apart)], p.Prefer[:cap(p.Prefer)], p.Require, p.Priority)
	}
	return out
}

// state is all that a cluster tells, as a text.
func state(c *cluster.Cluster) string {
	out := ""
	for slot, named := range c.Slots() {
		n, _ := c.Node(named)
		used, _ := c.Used(named)
		out += fmt.Sprint(slot, n, used, c.On(named), ";")
	}
	for slot, named := range c.PodSlots() {
		p, on, _ := c.Pod(named)
		out += fmt.Sprint(slot, p, on, ";")
	}
	return out
}

func memoryCluster(t *testing.T) *cluster.Cluster {
	t.Helper()
	c := chapterCluster(t)
	for _, taint := range []api.Taint{{Key: "k", Effect: api.NoSchedule}, {Key: "k", Effect: api.NoExecute}, {Key: "j", Effect: api.NoExecute}} {
		if _, err := c.Taint("a", taint); err != nil {
			t.Fatal(err)
		}
	}
	return c
}

// callAll makes all calls, at nodes that are there and one that isn't, of all places and some that are none.
func callAll(c *cluster.Cluster, tree api.Tree, p api.Pod) {
	mean.Where(c, tree, p)
	mean.Selects(tree, p, p)
	for _, named := range []string{"a", "b", "c", "none"} {
		mean.Holds(c, tree, p, named)
		mean.Why(c, tree, p, named)
		for at := -1; at <= min(len(tree.Parts), 40); at++ {
			mean.Value(c, tree, p, named, at)
		}
	}
}

// R6: the tree, the pods and the cluster stay as they are, spare room included.
func TestArgumentsStayAsTheyAre(t *testing.T) {
	c := memoryCluster(t)
	before := state(c)
	for _, tree := range wide(t) {
		handed, p := roomyTree(tree), widePod()
		was := whole(handed, p)
		callAll(c, handed, p)
		if whole(handed, p) != was {
			t.Errorf("%s or its pod was changed", told(tree))
		}
		check(t, c, handed, p)
		selector, q := roomyTree(read(t, `it["b"] in {"3", "2", "3"} && "zone" in it.keys && pod["a"] in it.keys`)), widePod()
		was = whole(selector, p, q)
		checkSelects(t, selector, p, q)
		if whole(selector, p, q) != was {
			t.Error("a selector or its pods were changed")
		}
	}
	if state(c) != before {
		t.Error("the cluster was changed")
	}
}

// overwrite writes over all that stands in a tree and in a pod.
func overwrite(tree api.Tree, p api.Pod) {
	for i := range tree.Parts {
		for j := range tree.Parts[i].Kids {
			tree.Parts[i].Kids[j] = 0
		}
		tree.Parts[i] = api.Part{Kind: api.KFalse}
	}
	for i := range p.Labels {
		p.Labels[i] = api.Label{Key: "over", Value: "over"}
	}
	for i := range p.Tolerations {
		p.Tolerations[i] = api.Toleration{Op: api.Exists}
	}
}

// R6, R9: what is written into a tree or a pod later changes neither what was answered nor what is answered of the tree and the pod as they were.
func TestNothingIsKept(t *testing.T) {
	c := memoryCluster(t)
	for _, tree := range wide(t) {
		if treeFault(tree, api.OfNode) != nil {
			continue
		}
		for _, named := range c.Nodes() {
			for at := range min(len(tree.Parts), 40) {
				want, wantErr := mean.Value(c, tree, widePod(), named, at)
				told := fmt.Sprintf("%+v %v", want, wantErr)
				handed, p := roomyTree(tree), widePod()
				v, err := mean.Value(c, handed, p, named, at)
				overwrite(handed, p)
				if fmt.Sprintf("%+v %v", v, err) != told {
					t.Errorf("the answer %s has changed to %+v, %v", told, v, err)
				}
			}
		}
		handed, p := roomyTree(tree), widePod()
		names, _ := mean.Where(c, handed, p)
		was := slices.Clone(names)
		overwrite(handed, p)
		check(t, c, handed, p)
		if !slices.Equal(names, was) {
			t.Errorf("the answer has changed to %v", names)
		}
		if again, _ := check(t, c, tree, widePod()); !slices.Equal(again, was) {
			t.Errorf("%s: %v, then %v", told(tree), was, again)
		}
	}
}

// R6: answers are new memory, spare room too: written over, they change no other answer, no argument and no cluster.
func TestAnswersAreNew(t *testing.T) {
	c := memoryCluster(t)
	before := state(c)
	for _, tree := range wide(t) {
		handed, p := roomyTree(tree), widePod()
		was := whole(handed, p)
		if names, err := mean.Where(c, handed, p); err == nil {
			names = names[:cap(names)]
			for i := range names {
				names[i] = "over"
			}
		}
		for _, named := range c.Nodes() {
			for at := range min(len(tree.Parts), 40) {
				v, _ := mean.Value(c, handed, p, named, at)
				other, _ := mean.Value(c, handed, p, named, at)
				wanted := fmt.Sprintf("%+v", other)
				for i := range v.Texts[:cap(v.Texts)] {
					v.Texts[:cap(v.Texts)][i] = "over"
				}
				for i := range v.Nums[:cap(v.Nums)] {
					v.Nums[:cap(v.Nums)][i] = -77
				}
				if fmt.Sprintf("%+v", other) != wanted || slices.Contains(other.Texts[:cap(other.Texts)], "over") || slices.Contains(other.Nums[:cap(other.Nums)], -77) {
					t.Errorf("two answers of %s at %s share memory", told(tree), named)
				}
			}
		}
		if whole(handed, p) != was || state(c) != before {
			t.Errorf("an answer of %s shares memory with an argument", told(tree))
		}
		check(t, c, handed, p)
	}
}

// R2, R6: a fault and its causes are new each time.
func TestFaultsAreNew(t *testing.T) {
	c := memoryCluster(t)
	for _, tree := range wide(t) {
		for _, named := range []string{"a", "none"} {
			for range 2 {
				_, err := mean.Value(c, tree, api.Pod{}, named, -5)
				for f, ok := err.(*api.Fault); ok && f != nil; f, ok = err.(*api.Fault) {
					err = f.Cause
					*f = api.Fault{Code: api.ErrNil, At: 77, Name: "over", Cause: api.ErrNil}
				}
				check(t, c, tree, api.Pod{})
			}
		}
	}
}

// R5: lists of pods and parts that are nil or empty mean the same.
func TestEmptyLists(t *testing.T) {
	c := memoryCluster(t)
	for _, tree := range wide(t) {
		other := api.Tree{Parts: slices.Clone(tree.Parts)}
		for i := range other.Parts {
			if len(other.Parts[i].Kids) == 0 {
				other.Parts[i].Kids = []int{}
			}
		}
		first, fault := check(t, c, tree, api.Pod{})
		second, fault2 := check(t, c, other, api.Pod{Labels: []api.Label{}, Tolerations: []api.Toleration{}, Needs: []api.Item{}})
		if !slices.Equal(first, second) || (fault == nil) != (fault2 == nil) {
			t.Errorf("%s: %v, %v", told(tree), first, second)
		}
	}
}

// R9: an answer hangs on the arguments alone: not on what was asked before, nor on what is asked at the same time of the same cluster.
func TestAnswersHangOnTheArguments(t *testing.T) {
	c, trees, p := memoryCluster(t), wide(t), widePod()
	want := make([]string, len(trees))
	for i, tree := range trees {
		want[i] = fmt.Sprint(mean.Where(c, tree, p))
	}
	var all sync.WaitGroup
	for k := range 8 {
		all.Go(func() {
			for i := range 100 {
				at := (i*(k+1) + k) % len(trees)
				if got := fmt.Sprint(mean.Where(c, trees[at], p)); got != want[at] {
					t.Errorf("%s: %s, want %s", told(trees[at]), got, want[at])
				}
			}
		})
	}
	all.Wait()
}
