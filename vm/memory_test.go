package vm_test

import (
	"fmt"
	"slices"
	"sync"
	"testing"

	"berth/api"
	"berth/bitset"
	"berth/index"
	"berth/vm"
)

// roomy is a copy of a list with spare room, which is filled with what no call may touch.
func roomy[T any](list []T, spare T) []T {
	return append(append([]T{}, list...), spare, spare, spare)[:len(list)]
}

func roomyProgram(p api.Program) api.Program {
	p.Texts, p.Nums, p.Code = roomy(p.Texts, "spare"), roomy(p.Nums, 77), roomy(p.Code, api.Instr{Op: 77, A: 7})
	p.Sets, p.NumSets = roomy(p.Sets, []string{"spare"}), roomy(p.NumSets, []int{77})
	for i, set := range p.Sets {
		p.Sets[i] = roomy(set, "spare")
	}
	for i, set := range p.NumSets {
		p.NumSets[i] = roomy(set, 77)
	}
	return p
}

func roomyPod(pod api.Pod) api.Pod {
	pod.Labels, pod.Tolerations = roomy(pod.Labels, api.Label{Key: "spare"}), roomy(pod.Tolerations, api.Toleration{Key: "spare"})
	pod.Needs, pod.Apart, pod.Prefer = roomy(pod.Needs, api.Item{Name: "spare"}), roomy(pod.Apart, api.Apart{Topo: "spare"}), roomy(pod.Prefer, api.Prefer{Text: "spare"})
	return pod
}

// whole is all that stands in a program's and a pod's lists, spare room too, as a text.
func whole(p api.Program, pod api.Pod) string {
	out := fmt.Sprintf("%d %d %d %d %d %d %d %q %d %d", p.Depth, p.Locals, len(p.Texts), len(p.Nums), len(p.Sets), len(p.NumSets), len(p.Code), p.Texts[:cap(p.Texts)], p.Nums[:cap(p.Nums)], p.Code[:cap(p.Code)])
	for _, set := range p.Sets[:cap(p.Sets)] {
		out += fmt.Sprintf("; %d %q", len(set), set[:cap(set)])
	}
	for _, set := range p.NumSets[:cap(p.NumSets)] {
		out += fmt.Sprintf("; %d %d", len(set), set[:cap(set)])
	}
	lists := fmt.Sprint(pod.Labels[:cap(pod.Labels)], pod.Tolerations[:cap(pod.Tolerations)], pod.Needs[:cap(pod.Needs)], pod.Apart[:cap(pod.Apart)], pod.Prefer[:cap(pod.Prefer)])
	return out + lists + fmt.Sprint(pod)
}

// probe is all that an index answers to many questions, as a text. A nil one has nothing that could change.
func probe(x *index.Index) string {
	var out []any
	if x == nil {
		return ""
	}
	for _, of := range []api.Side{api.OfNode, api.OfIt} {
		out = append(out, x.Live(of).Members(), x.Has(of, someKeys).Members(), x.Name(of, someNames).Members())
		for _, key := range append(someKeys, "host", "rank") {
			out = append(out, x.Has(of, []string{key}).Members(), x.Number(of, key, api.CmpGe, 1).Members(), x.NumberIn(of, key, []int{2, 3}).Members())
			for _, value := range someValues {
				out = append(out, x.Label(of, key, []string{value}).Members())
			}
		}
	}
	for _, key := range append(someKeys, "host", "t", "cpu", "mem", "gpu") {
		out = append(out, x.Cap(key, api.CmpLt, 3).Members(), x.CapIn(key, []int{0, 2}).Members(), x.Tainted([]string{key}).Members())
		out = append(out, x.Near(key, x.Live(api.OfIt)).Members(), x.Count(key, x.Live(api.OfIt), api.CmpGt, 1).Members())
	}
	for _, effect := range effects {
		out = append(out, x.Tolerated(nil, effect).Members())
	}
	return fmt.Sprint(append(out, x.Open().Members())...)
}

// run is a run: a program, which may be refused, over an index for a pod.
type run struct {
	p   api.Program
	b   bench
	pod api.Pod
}

// wide are runs of all kinds.
func wide(t *testing.T, seed uint64) []run {
	t.Helper()
	r := newChance(seed)
	var out []run
	for range 15 {
		b := one(r, r.cluster(t, 50).bench(), r.cluster(t, 5).bench(), ordinary(t), bench{}, bench{x: index.New()})
		for range 8 {
			p := r.program(one(r, 2, 10, 30))
			out = append(out, run{p, b, r.rawPod()}, run{r.disturb(p), b, r.rawPod()})
		}
		for o := api.Op(1); o <= 36; o++ {
			out = append(out, run{setting(o), b, r.rawPod()})
		}
	}
	return out
}

// answer is what a run answers, as a text.
func (c run) answer() string {
	set, stat, e := vm.Run(c.p, c.b.x, c.pod)
	return fmt.Sprint(set == nil, set.Size(), set.Members(), stat, e)
}

// R6, P22.3: the program, the pod and the index stay as they are, spare room included.
func TestArgumentsStayAsTheyAre(t *testing.T) {
	held, copied := map[*index.Index]string{}, map[*index.Index]*index.Index{}
	for _, c := range wide(t, 6) {
		p, pod := roomyProgram(c.p), roomyPod(c.pod)
		was := whole(p, pod)
		if held[c.b.x] == "" {
			held[c.b.x], copied[c.b.x] = probe(c.b.x), c.b.w.index(t)
		}
		vm.Run(p, c.b.x, pod)
		if whole(p, pod) != was {
			t.Fatalf("%s, or %v, was changed", told(c.p), c.pod)
		}
		if probe(c.b.x) != held[c.b.x] || !index.Same(c.b.x, copied[c.b.x]) {
			t.Fatalf("%s has changed the index", told(c.p))
		}
	}
}

// scrawl writes over all of a bitmap.
func scrawl(set *bitset.Set) {
	for i := range set.Size() {
		if !set.Remove(i) {
			set.Add(i)
		}
	}
	set.Grow(set.Size() + 1000)
	set.Add(set.Size() - 1)
}

// R6: an answer that is written over changes no other answer, no index and no program; what is written into the arguments later changes no answer.
func TestAnswersAreNew(t *testing.T) {
	for _, c := range wide(t, 7) {
		want, held := c.answer(), probe(c.b.x)
		p, pod := roomyProgram(c.p), roomyPod(c.pod)
		was := whole(p, pod)
		first, _, e := vm.Run(p, c.b.x, pod)
		second, _, _ := vm.Run(p, c.b.x, pod)
		if e != api.OK {
			continue
		}
		members := second.Members()
		scrawl(first)
		if !slices.Equal(second.Members(), members) || second.Size() != api.MaxNodes {
			t.Fatalf("%s: another answer has changed", told(c.p))
		}
		if got := c.answer(); got != want || probe(c.b.x) != held || whole(p, pod) != was {
			t.Fatalf("%s: %s, want %s; or what was handed in has changed", told(c.p), got, want)
		}
		overwrite(p, pod)
		if !slices.Equal(second.Members(), members) {
			t.Fatalf("%s: the answer has changed with what was handed in", told(c.p))
		}
		if got := c.answer(); got != want {
			t.Fatalf("%s: %s, want %s", told(c.p), got, want)
		}
	}
}

// overwrite writes over all that stands in a program and in a pod.
func overwrite(p api.Program, pod api.Pod) {
	for _, set := range p.Sets {
		clear(set[:cap(set)])
	}
	for _, set := range p.NumSets {
		clear(set[:cap(set)])
	}
	clear(p.Texts[:cap(p.Texts)])
	clear(p.Nums[:cap(p.Nums)])
	clear(p.Sets[:cap(p.Sets)])
	clear(p.NumSets[:cap(p.NumSets)])
	clear(p.Code[:cap(p.Code)])
	clear(pod.Labels[:cap(pod.Labels)])
	clear(pod.Tolerations[:cap(pod.Tolerations)])
}

// R6: an answer stays as it is when the index goes on.
func TestAnswersStay(t *testing.T) {
	r := newChance(8)
	for range 100 {
		c := r.cluster(t, 50)
		p, pod := r.program(one(r, 2, 20)), r.rawPod()
		set, _, _ := vm.Run(p, c.x, pod)
		all, _, _ := vm.Run(assemble("all 0; end"), c.x, pod)
		was := fmt.Sprint(set.Members(), all.Members())
		for range 30 {
			c.step(t)
		}
		for _, name := range c.c.Nodes() {
			c.drain(t, name)
		}
		if got := fmt.Sprint(set.Members(), all.Members()); got != was {
			t.Fatalf("%s: %s, then %s", told(p), was, got)
		}
	}
}

// R5: an answer hangs on what is in the lists, not on the room behind them nor on their being nil.
func TestRoomAndNil(t *testing.T) {
	for _, c := range wide(t, 9) {
		want := c.answer()
		if got := (run{roomyProgram(c.p), c.b, roomyPod(c.pod)}).answer(); got != want {
			t.Fatalf("%s: %s, with spare room %s", told(c.p), want, got)
		}
	}
	b := ordinary(t)
	none := api.Program{Depth: 1, Code: []api.Instr{op(api.OpPodKeys), op(api.OpHas), op(api.OpNot), op(api.OpEnd)}}
	empty := api.Program{Texts: []string{}, Nums: []int{}, Sets: [][]string{}, NumSets: [][]int{}, Depth: 1, Code: none.Code}
	for _, p := range []api.Program{none, empty} {
		for _, pod := range []api.Pod{{}, {Labels: []api.Label{}, Tolerations: []api.Toleration{}}} {
			if slots, _, e := b.try(t, p, pod); e != api.OK || !slices.Equal(slots, every) {
				t.Errorf("%s: %v, %d", told(p), slots, e)
			}
		}
	}
	refused(t, api.Program{Code: []api.Instr{}}, b.x, api.Pod{})
}

// R9: an answer hangs on the arguments and the index alone: not on what was asked before, nor on what is asked at the same time.
func TestAnswersHangOnTheArguments(t *testing.T) {
	cases := wide(t, 10)
	want := make([]string, len(cases))
	for i, c := range cases {
		want[i] = c.answer()
	}
	var every sync.WaitGroup
	for k := range 8 {
		every.Go(func() {
			for i := range 400 {
				at := (i*(k+1) + k) % len(want)
				if got := cases[at].answer(); got != want[at] {
					t.Errorf("%d: %s, want %s", at, short(got), short(want[at]))
				}
			}
		})
	}
	every.Wait()
}
