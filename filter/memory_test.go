package filter_test

import (
	"errors"
	"fmt"
	"sync"
	"testing"

	"berth/api"
	"berth/cluster"
	"berth/filter"
	"berth/index"
)

// roomy is a copy of a list with spare room, which is filled with what no call may touch.
func roomy[T any](list []T, spare T) []T {
	return append(append([]T{}, list...), spare, spare, spare)[:len(list)]
}

func roomyPod(p api.Pod) api.Pod {
	p.Labels, p.Tolerations = roomy(p.Labels, api.Label{Key: "spare"}), roomy(p.Tolerations, api.Toleration{Key: "spare"})
	p.Needs, p.Apart, p.Prefer = roomy(p.Needs, api.Item{Name: "spare"}), roomy(p.Apart, api.Apart{Topo: "spare"}), roomy(p.Prefer, api.Prefer{Text: "spare"})
	return p
}

// whole is all that stands in a pod, spare room too, as a text.
func whole(p api.Pod) string {
	return fmt.Sprint(p, p.Labels[:cap(p.Labels)], p.Tolerations[:cap(p.Tolerations)], p.Needs[:cap(p.Needs)], p.Apart[:cap(p.Apart)], p.Prefer[:cap(p.Prefer)])
}

// overwrite writes over all that stands in a pod's lists, spare room too.
func overwrite(p api.Pod) {
	clear(p.Labels[:cap(p.Labels)])
	clear(p.Tolerations[:cap(p.Tolerations)])
	clear(p.Needs[:cap(p.Needs)])
	clear(p.Apart[:cap(p.Apart)])
	clear(p.Prefer[:cap(p.Prefer)])
}

// standOf is all that a cluster tells, as a text.
func standOf(c *cluster.Cluster) string {
	var out []any
	for slot, name := range c.Slots() {
		node, _ := c.Node(name)
		used, _ := c.Used(name)
		out = append(out, slot, node, used, c.On(name))
	}
	for slot, name := range c.PodSlots() {
		pod, on, _ := c.Pod(name)
		out = append(out, slot, pod, on)
	}
	return fmt.Sprint(out...)
}

// ask is a question of all calls at once.
type ask struct {
	c      *cluster.Cluster
	x      *index.Index
	source string
	pod    api.Pod
}

func (a ask) answer() string { return answers(a.c, a.x, a.source, a.pod) }

// asks are questions of all kinds, refused ones too.
func asks(t *testing.T, seed uint64) []ask {
	t.Helper()
	r := newChance(seed)
	out := []ask{{nil, nil, "true", r.pod("p")}, {nil, nil, "&", r.rawPod()}, {cluster.New(), index.New(), "true", r.pod("p")}}
	for range 25 {
		c := r.course(t, one(r, 5, 30, 60))
		for range 8 {
			out = append(out, ask{c.c, c.x, one(r, r.condition(api.OfNode, 3), r.source(api.OfNode)), one(r, r.pod("new"), r.rawPod())})
		}
	}
	return out
}

// P23.7, R6: the pod, the cluster and the index stay as they are, spare room included.
func TestArgumentsStayAsTheyAre(t *testing.T) {
	for _, a := range asks(t, 50) {
		a.pod = roomyPod(a.pod)
		pod, stood, held := whole(a.pod), standOf(a.c), index.Build(a.c)
		a.answer()
		if whole(a.pod) != pod {
			t.Fatalf("%+v was changed", a.pod)
		}
		if standOf(a.c) != stood || !index.Same(a.x, held) {
			t.Fatalf("%s for %+v has changed the cluster or the index", a.source, a.pod)
		}
	}
}

// P23.7, R6: what is answered shares nothing with what is handed in, with what is kept, or with another answer.
func TestAnswersAreNew(t *testing.T) {
	for _, a := range asks(t, 51) {
		want, p := a.answer(), roomyPod(a.pod)
		made, err := filter.Check(p)
		matched, _ := filter.Match(a.c, a.x, a.source, p)
		feasible, _ := filter.Feasible(a.c, a.x, p)
		if err == nil {
			other, _ := filter.Check(p)
			was := whole(other) + whole(p)
			overwrite(made)
			if whole(other)+whole(p) != was {
				t.Fatalf("%+v: another answer has changed, or what was handed in", p)
			}
			again, _ := filter.Check(p)
			is := fmt.Sprint(again)
			overwrite(p)
			if fmt.Sprint(again) != is {
				t.Fatalf("%+v: the answer has changed with what was handed in", a.pod)
			}
		}
		clear(matched[:cap(matched)])
		clear(feasible[:cap(feasible)])
		if got := a.answer(); got != want {
			t.Fatalf("%s for %+v: %s, want %s", a.source, a.pod, got, want)
		}
	}
}

// P23.7: a fault that is written over changes none that is answered later.
func TestFaultsAreNew(t *testing.T) {
	r := newChance(54)
	c := chapterCluster(t)
	x := index.Build(c)
	for range 500 {
		source, p, node := r.source(api.OfNode), r.rawPod(), one(r, "a", "none")
		ask := func() []error {
			_, tree := filter.Tree(source, api.OfNode)
			_, compile := filter.Compile(source)
			_, match := filter.Match(c, x, source, p)
			_, check := filter.Check(p)
			_, feasible := filter.Feasible(c, x, p)
			_, explain := filter.Explain(c, p, node)
			return []error{tree, compile, match, check, feasible, explain}
		}
		first := ask()
		for i, err := range first {
			was := told(err)
			var f *api.Fault
			for cause := err; errors.As(cause, &f); cause = f.Cause {
				f.Code, f.At, f.Name = 999, 999, "spare"
			}
			if got := told(ask()[i]); got != was {
				t.Fatalf("%s for %+v: %s, then %s", source, p, was, got)
			}
		}
	}
}

// R5, R9: an answer hangs on what is in the lists, not on the room behind them nor on their being nil; not on what was asked before, nor on what is asked at the same time.
func TestAnswersHangOnTheArguments(t *testing.T) {
	all := asks(t, 52)
	want := make([]string, len(all))
	for i, a := range all {
		want[i] = a.answer()
		a.pod = roomyPod(a.pod)
		if got := a.answer(); got != want[i] {
			t.Fatalf("%s for %+v: %s, with spare room %s", a.source, a.pod, want[i], got)
		}
	}
	var every sync.WaitGroup
	for k := range 8 {
		every.Go(func() {
			for i := range 150 {
				at := (i*(k+1) + k) % len(all)
				if got := all[at].answer(); got != want[at] {
					t.Errorf("%d: %s, want %s", at, short(got), short(want[at]))
				}
			}
		})
	}
	every.Wait()
}

// R9: an answer stays as it is when the cluster goes on.
func TestAnswersStay(t *testing.T) {
	r := newChance(53)
	for range 50 {
		c, p := r.course(t, 40), r.pod("new")
		matched, _ := filter.Match(c.c, c.x, "true", p)
		feasible, _ := filter.Feasible(c.c, c.x, p)
		was := fmt.Sprint(matched, feasible)
		for range 30 {
			c.step(t)
		}
		for _, name := range c.c.Nodes() {
			c.drain(t, name)
		}
		if got := fmt.Sprint(matched, feasible); got != was {
			t.Fatalf("%s, then %s", was, got)
		}
	}
}
