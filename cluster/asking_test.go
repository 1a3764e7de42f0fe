package cluster_test

import (
	"iter"
	"slices"
	"testing"

	"berth/api"
	"berth/cluster"
)

// P6.11 to P6.14, R7: a nil cluster is read as one without nodes, and so is a new one.
func TestEmptyClusters(t *testing.T) {
	check(t, "a nil cluster", nil, newModel())
	check(t, "a new cluster", cluster.New(), newModel())
	var none *cluster.Cluster
	if none.Slots() == nil || none.PodSlots() == nil || none.Live() == nil {
		t.Error("a nil cluster answers nil")
	}
}

// P6.11, P6.12: names are told by their bytes, each above the one ahead of it, whatever their slots are.
func TestNamesRise(t *testing.T) {
	b := made(t)
	want := []string{"0", "10", "9", "a", "a-b", "a.b", "a0", "ab", "b"}
	for _, i := range []int{4, 0, 8, 2, 6, 1, 7, 3, 5} {
		b.add(node(want[i]))
	}
	for _, i := range []int{7, 3, 1, 8, 0, 5, 2, 6, 4} {
		b.bind(pod(want[i]), "a.b")
	}
	for what, got := range map[string][]string{"Nodes": b.c.Nodes(), "Pods": b.c.Pods(), "On": b.c.On("a.b")} {
		if !slices.Equal(got, want) {
			t.Errorf("%s: %q, want %q", what, got, want)
		}
	}
	b.check("many names")
}

// P6.11, P6.12: a slot that becomes free is told of no more, and is taken again, the lowest first; all others keep theirs.
func TestSlotsFreeAndTaken(t *testing.T) {
	b := made(t)
	for i := range 130 {
		b.add(node(nth(i)))
		b.bind(pod(pth(i)), nth(i))
	}
	for _, i := range []int{129, 64, 63, 0, 100} {
		b.unbind(pth(i))
		b.check("a pod's slot is free")
		b.remove(nth(i))
		b.check("a node's slot is free")
	}
	for _, want := range []int{0, 63, 64, 100, 129, 130} {
		ch, err := b.add(node(nth(1000 + want)))
		if err != nil || ch.Slot != want {
			t.Errorf("Add: %+v, %v, want the slot %d", ch, err, want)
		}
		ch, err = b.bind(pod(pth(1000+want)), "n1")
		if err != nil || ch.Slot != 1 || ch.PodSlot != want {
			t.Errorf("Bind: %+v, %v, want the slot %d", ch, err, want)
		}
		b.check("taken again")
	}
}

// P6.11 to P6.14, R9: a question changes nothing.
func TestAskingChangesNothing(t *testing.T) {
	b := made(t)
	b.add(fullNode("n"))
	b.add(node("m"))
	b.bind(fullPod("p"), "n")
	b.remove("m")
	for range 3 {
		b.check("asked again")
	}
	if ch, err := b.add(node("new")); err != nil || ch.Slot != 1 {
		t.Errorf("Add behind many questions: %+v, %v", ch, err)
	}
	b.check("added")
}

// walks are the two walks over a cluster.
func walks(c *cluster.Cluster) map[string]func() iter.Seq2[int, string] {
	return map[string]func() iter.Seq2[int, string]{"Slots": c.Slots, "PodSlots": c.PodSlots}
}

// holed is a cluster whose nodes and pods have free slots at their beginning and in their midst.
func holed(t *testing.T) both {
	t.Helper()
	b := made(t)
	for i := range 9 {
		b.add(node(nth(i), "cpu", 5))
	}
	for i := range 9 {
		b.bind(pod(pth(i), "cpu", 1), nth(1+i%3))
	}
	for _, i := range []int{0, 4, 5} {
		b.remove(nth(i))
		b.unbind(pth(i))
	}
	return b
}

// P6.13, R8: a walk may be walked again, broken off at each place, and walked within itself; who stops gets no more.
func TestWalks(t *testing.T) {
	b := holed(t)
	for what, of := range walks(b.c) {
		walk := of()
		want := walked(of())
		if len(want) != 6 || want[0].slot != 1 || want[5].slot != 8 {
			t.Fatalf("%s: %v", what, want)
		}
		for stop := range len(want) + 2 {
			calls := 0
			walk(func(slot int, name string) bool {
				if calls >= len(want) || want[calls] != (pair{slot, name}) {
					t.Errorf("%s broken off at %d: %d %q at step %d", what, stop, slot, name, calls)
				}
				calls++
				return calls < stop
			})
			if calls != max(1, min(stop, len(want))) {
				t.Errorf("%s broken off at %d: %d were given", what, stop, calls)
			}
			if got := walked(walk); !slices.Equal(got, want) {
				t.Errorf("%s walked again behind %d: %v", what, stop, got)
			}
		}
		for range walk {
			if inner := walked(walk); !slices.Equal(inner, want) {
				t.Errorf("%s walked within itself: %v", what, inner)
			}
		}
	}
	b.check("walked")
}

// P6.13, R8: a walk tells of the cluster as it was when it was asked for, though all is changed ahead of it and in its midst.
func TestWalksOfWhatWas(t *testing.T) {
	for _, what := range []string{"Slots", "PodSlots"} {
		b := holed(t)
		walk := walks(b.c)[what]()
		want := walked(walk)
		b.add(node("new"))
		b.bind(pod("new"), "new")
		b.unbind("p8")
		b.remove("n8")
		if got := walked(walk); !slices.Equal(got, want) {
			t.Errorf("%s changed ahead of the walk: %v, want %v", what, got, want)
		}
		step := 0
		for slot, name := range walk {
			if step >= len(want) || want[step] != (pair{slot, name}) {
				t.Fatalf("%s changed in the midst: %d %q at step %d", what, slot, name, step)
			}
			b.add(node(nth(100 + step)))
			b.bind(pod(pth(100+step)), nth(100+step))
			for _, p := range b.c.Pods() {
				b.unbind(p)
			}
			for _, n := range b.c.Nodes() {
				b.remove(n)
			}
			b.check("in the midst of a walk")
			step++
		}
		if step != len(want) || !slices.Equal(walked(walk), want) {
			t.Errorf("%s changed in the midst: %d steps, %v", what, step, walked(walk))
		}
		if got := walked(walks(b.c)[what]()); len(got) != 0 {
			t.Errorf("%s of what is left: %v", what, got)
		}
	}
}

// P6.11: Live is a new set each time: who changes it changes nothing else, and no change of the cluster changes it.
func TestLiveIsNew(t *testing.T) {
	b := holed(t)
	first, second := b.c.Live(), b.c.Live()
	want := second.Members()
	first.Remove(1)
	first.Add(0)
	first.Add(511)
	first.Grow(1000)
	b.check("a set that was answered is changed")
	b.add(node("new"))
	b.remove("n8")
	if !slices.Equal(second.Members(), want) {
		t.Errorf("a set behind changes: %v, want %v", second.Members(), want)
	}
}

// P6.11, P6.12: what is told of a node or pod is all that it has; beside false all is zero.
func TestNodeAndPod(t *testing.T) {
	b := made(t)
	b.add(fullNode("n"))
	b.bind(fullPod("p"), "n")
	p, at, ok := b.c.Pod("p")
	if want := fullPod("p"); !ok || at != "n" || p.Require != want.Require || p.Priority != want.Priority ||
		!slices.Equal(p.Apart, want.Apart) || !slices.Equal(p.Prefer, want.Prefer) || !slices.Equal(p.Tolerations, want.Tolerations) {
		t.Errorf("Pod: %+v, %q, %v", p, at, ok)
	}
	if p, at, ok := b.c.Pod("n"); !samePod(p, api.Pod{}) || at != "" || ok {
		t.Errorf("Pod of a node's name: %+v, %q, %v", p, at, ok)
	}
	if n, ok := b.c.Node("p"); !sameNode(n, api.Node{}) || ok {
		t.Errorf("Node of a pod's name: %+v, %v", n, ok)
	}
	b.check("one of each")
}
