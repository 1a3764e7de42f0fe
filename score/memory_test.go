package score_test

import (
	"errors"
	"fmt"
	"sync"
	"testing"

	"berth/api"
	"berth/cluster"
	"berth/index"
	"berth/score"
)

// roomy is a copy of a list with spare room, which is filled with what no call may touch.
func roomy[T any](list []T, spare T) []T {
	return append(append([]T{}, list...), spare, spare, spare)[:len(list)]
}

func roomyPod(p api.Pod) api.Pod {
	p.Labels, p.Tolerations = roomy(p.Labels, api.Label{Key: "spare"}), roomy(p.Tolerations, api.Toleration{Key: "spare"})
	p.Needs, p.Apart, p.Prefer = roomy(p.Needs, api.Item{Name: "spare"}), roomy(p.Apart, api.Apart{Topo: "spare"}), roomy(p.Prefer, api.Prefer{Text: "spare"})
	return p
}

// whole is all that stands in a pod and a list of names, spare room too, as a text.
func whole(p api.Pod, names []string) string {
	return fmt.Sprintf("%v %v %v %v %v %v %q", p, p.Labels[:cap(p.Labels)], p.Tolerations[:cap(p.Tolerations)], p.Needs[:cap(p.Needs)], p.Apart[:cap(p.Apart)], p.Prefer[:cap(p.Prefer)], names[:cap(names)])
}

// standOf is all that a cluster tells, as a text.
func standOf(c *cluster.Cluster) string {
	var out []any
	for slot, name := range c.Slots() {
		node, _ := c.Node(name)
		used, _ := c.Used(name)
		out = append(out, slot, node, used, c.On(name))
	}
	for slot, name := range c.PodSlots() {
		pod, on, _ := c.Pod(name)
		out = append(out, slot, pod, on)
	}
	return fmt.Sprint(out...)
}

// ask is a question of all calls at once.
type ask struct {
	c     *cluster.Cluster
	x     *index.Index
	pod   api.Pod
	nodes []string
}

func (a ask) answer() string { return answers(a.c, a.x, a.pod, a.nodes) }

// asks are questions of all kinds, refused ones too.
func asks(t *testing.T, seed uint64) []ask {
	t.Helper()
	r := newChance(seed)
	out := []ask{{nil, nil, r.pod("p"), []string{"a0"}}, {nil, nil, r.rawPod(), nil}, {cluster.New(), index.New(), r.pod("p"), []string{"a0"}}}
	for range 25 {
		c := r.course(t, one(r, 5, 30, 60))
		for range 8 {
			out = append(out, ask{c.c, c.x, one(r, r.pod("new"), r.pod("new"), r.rawPod()), r.names(c.c)})
		}
	}
	return out
}

// P24.3, R6: the pod, the list, the cluster and the index stay as they are, spare room included.
func TestArgumentsStayAsTheyAre(t *testing.T) {
	for _, a := range asks(t, 30) {
		a.pod, a.nodes = roomyPod(a.pod), roomy(a.nodes, "spare")
		was, stood, held := whole(a.pod, a.nodes), standOf(a.c), index.Build(a.c)
		a.answer()
		if is := whole(a.pod, a.nodes); is != was {
			t.Fatalf("%s was changed: %s", was, is)
		}
		if standOf(a.c) != stood || !index.Same(a.x, held) {
			t.Fatalf("%q for %+v has changed the cluster or the index", a.nodes, a.pod)
		}
	}
}

// R5, R9, P24.3: an answer hangs on what is in the lists, not on the room behind them nor on their being nil; not on what was asked before, nor on what is asked at the same time.
func TestAnswersHangOnTheArguments(t *testing.T) {
	all := asks(t, 31)
	want := make([]string, len(all))
	for i, a := range all {
		want[i] = a.answer()
		a.pod, a.nodes = roomyPod(a.pod), roomy(a.nodes, "spare")
		if got := a.answer(); got != want[i] {
			t.Fatalf("%q for %+v: %s, with spare room %s", a.nodes, a.pod, want[i], got)
		}
	}
	var every sync.WaitGroup
	for k := range 8 {
		every.Go(func() {
			for i := range 150 {
				at := (i*(k+1) + k) % len(all)
				if got := all[at].answer(); got != want[at] {
					t.Errorf("%d: %s, want %s", at, got, want[at])
				}
			}
		})
	}
	every.Wait()
}

// R6, R9: what is written over in the arguments, or in a fault, changes no answer.
func TestAnswersAreNew(t *testing.T) {
	for _, a := range asks(t, 32) {
		want, p, nodes := a.answer(), roomyPod(a.pod), roomy(a.nodes, "spare")
		name, points, err := score.Best(a.c, a.x, p, nodes)
		is := fmt.Sprint(name, points, told(err))
		clear(p.Labels[:cap(p.Labels)])
		clear(p.Needs[:cap(p.Needs)])
		clear(p.Tolerations[:cap(p.Tolerations)])
		clear(p.Apart[:cap(p.Apart)])
		clear(p.Prefer[:cap(p.Prefer)])
		clear(nodes[:cap(nodes)])
		if got := fmt.Sprint(name, points, told(err)); got != is {
			t.Fatalf("%s, then %s", is, got)
		}
		var f *api.Fault
		for cause := err; errors.As(cause, &f); cause = f.Cause {
			f.Code, f.At, f.Name = 999, 999, "spare"
		}
		if got := a.answer(); got != want {
			t.Fatalf("%q for %+v: %s, want %s", a.nodes, a.pod, got, want)
		}
	}
}
