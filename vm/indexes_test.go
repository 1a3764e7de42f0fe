package vm_test

import (
	"fmt"
	"slices"
	"testing"

	"berth/api"
	"berth/cluster"
	"berth/index"
	"berth/vm"
)

// P22.1: of an index without nodes, and of a nil one, every program answers an empty node bitmap; the run takes as many steps as over any index in which nothing lives.
func TestIndexesWithoutNodes(t *testing.T) {
	r := newChance(4)
	emptied := ordinary(t).x
	w := ordinary(t).w
	for i, slot := range w.podSlots {
		emptied.Apply(api.Change{Kind: api.ChangePodDel, Slot: w.slots[w.homes[i]], PodSlot: slot})
	}
	for _, slot := range w.slots {
		emptied.Apply(api.Change{Kind: api.ChangeNodeDel, Slot: slot})
	}
	for _, x := range []*index.Index{nil, index.New(), index.Build(nil), index.Build(cluster.New()), emptied} {
		b := bench{x: x}
		for range 400 {
			p, pod := r.program(one(r, 2, 10, 30)), r.rawPod()
			if slots, _, e := b.try(t, p, pod); e != api.OK || len(slots) > 0 {
				t.Fatalf("%s: %v, %d", told(p), slots, e)
			}
		}
		for o := api.Op(1); o <= 36; o++ {
			b.try(t, setting(o), someone())
		}
		b.takes(t, someone(), "all 0; not; end", 3, 1)
		b.takes(t, someone(), "all 0; jumpnone out; all 0; and; out: end", 3, 1) // nothing lives: it is empty
		b.takes(t, someone(), "none 0; jumpall out; all 0; and; out: end", 3, 1) // and it is all that live
		b.takes(t, someone(), "none 1; jumpall out; not; out: near zone; end", 4, 1)
		b.takes(t, someone(), "text x; texts y; member 0; jumpall out; not; out: end", 5, 2)
	}
}

// setting is a program with an Op, and with what it needs ahead of it.
func setting(o api.Op) api.Program {
	code := "all 0; save 0; "
	for _, kind := range lines[o].takes {
		code += map[rune]string{'N': "all 0; ", 'P': "all 1; ", 'x': "all 0; ", '?': "all 0; ", 't': "text x; ", 'n': "num 3; ", 'T': "texts x,y; ", 'M': "nums 3,4; "}[kind]
	}
	code += lines[o].name
	for _, what := range lines[o].operands {
		code += map[rune]string{'.': "", 'u': " 0", 't': " zone", 'n': " 3", 's': " x,y", 'm': " 3,4", 'c': " !=", 'l': " 0", 'j': " next"}[what]
	}
	if o == api.OpEnd {
		return assemble(code)
	}
	code += "; next: "
	if lines[o].puts != "" {
		code += "pop; "
	}
	return assemble(code + "load 0; end")
}

// P22.1: OpJumpAll over pods where nodes live but no pod is bound, and the other way round: of nodes where there are some.
func TestJumpAllWhereNothingLives(t *testing.T) {
	c := cluster.New()
	if _, err := c.Add(api.Node{Name: "a", Labels: tags("zone", "x")}); err != nil {
		t.Fatal(err)
	}
	b := bench{worldOf(c), index.Build(c)}
	b.wants(t, api.Pod{}, "none 1; jumpall out; not; out: near zone; end")
	b.takes(t, api.Pod{}, "none 1; jumpall out; not; out: near zone; end", 4, 1)
	b.takes(t, api.Pod{}, "all 1; jumpnone out; not; out: near zone; end", 4, 1)
	b.takes(t, api.Pod{}, "all 1; jumpall one; not; one: jumpnone two; not; two: near zone; end", 5, 1)
	b.wants(t, api.Pod{}, "none 0; jumpall out; not; out: end", 0)
	b.takes(t, api.Pod{}, "none 0; jumpall out; not; out: end", 4, 1)
	b.wants(t, api.Pod{}, "all 1; num 0; count zone ==; end", 0)
	b.wants(t, api.Pod{}, "all 1; nums 0; countin zone; end", 0)
}

// P22.1, P22.3: slots that were freed and taken again: a negation brings in no slot that is free, and what stood there before counts no more.
func TestFreedSlots(t *testing.T) {
	c, x := cluster.New(), index.New()
	do := func(change api.Change, err error) {
		t.Helper()
		if e := x.Apply(change); err != nil || e != api.OK {
			t.Fatal(err, e)
		}
	}
	for i := range 5 {
		do(c.Add(api.Node{Name: fmt.Sprint("n", i), Labels: tags("zone", "x", "host", fmt.Sprint(i), "rank", fmt.Sprint(i)), Cap: []api.Item{{Name: "cpu", N: 9}}, Taints: []api.Taint{{Key: "t", Effect: api.NoSchedule}}}))
		do(c.Bind(api.Pod{Name: fmt.Sprint("p", i), Labels: tags("app", "web")}, fmt.Sprint("n", i)))
	}
	for _, i := range []int{1, 3} {
		do(c.Unbind(fmt.Sprint("p", i)))
		do(c.Remove(fmt.Sprint("n", i)))
	}
	b := bench{worldOf(c), x}
	b.wants(t, api.Pod{}, "all 0; end", 0, 2, 4)
	b.wants(t, api.Pod{}, "none 0; not; end", 0, 2, 4)
	b.wants(t, api.Pod{}, "none 1; not; near host; end", 0, 2, 4)
	b.wants(t, api.Pod{}, "texts n1,n3; name 0; not; end", 0, 2, 4)
	b.wants(t, api.Pod{}, "nums 1,3; numberin 0 rank; end")
	b.wants(t, api.Pod{}, "num 0; cap gpu ==; end", 0, 2, 4)
	b.wants(t, api.Pod{}, "tolerated NoExecute; end", 0, 2, 4)
	b.wants(t, api.Pod{}, "all 1; num 3; count zone ==; end", 0, 2, 4)
	do(c.Add(api.Node{Name: "new", Labels: tags("zone", "y")})) // in the slot 1
	do(c.Bind(api.Pod{Name: "q", Labels: tags("app", "db")}, "new"))
	b.w = worldOf(c)
	b.wants(t, api.Pod{}, "all 0; end", 0, 1, 2, 4)
	b.wants(t, api.Pod{}, "texts x; label 0 zone; not; end", 1)
	b.wants(t, api.Pod{}, "texts n1,new; name 0; end", 1)
	b.wants(t, api.Pod{}, "num 1; number 0 rank ==; end")
	b.wants(t, api.Pod{}, "num 9; cap cpu ==; end", 0, 2, 4)
	b.wants(t, api.Pod{}, "texts t; taint; not; end", 1)
	b.wants(t, api.Pod{}, "tolerated NoSchedule; end", 1)
	b.wants(t, api.Pod{}, "texts web; label 1 app; not; near zone; end", 1)
	b.wants(t, api.Pod{}, "texts web; label 1 app; near zone; not; end", 1)
	b.wants(t, api.Pod{}, "texts p1,q; name 1; near host; end")
	if !index.Same(x, index.Build(c)) {
		t.Error("the index isn't that of the cluster")
	}
}

// P22.3: of two indexes with the same rows, whatever calls have made them, and with other rows between two runs, the answers are the same.
func TestIndexesWithTheSameRows(t *testing.T) {
	r := newChance(5)
	for range 60 {
		c := r.cluster(t, 60)
		w := worldOf(c.c)
		for range 10 {
			p, pod := r.program(one(r, 5, 20, 40)), r.rawPod()
			want, took, _ := vm.Run(p, c.x, pod)
			for _, x := range []*index.Index{index.Build(c.c), w.index(t), c.x} {
				if got, stat, e := vm.Run(p, x, pod); e != api.OK || stat != took || !slices.Equal(got.Members(), want.Members()) {
					t.Fatalf("%s: %v, %v, %d, want %v, %v", told(p), got.Members(), stat, e, want.Members(), took)
				}
			}
		}
		p, pod := r.program(40), r.rawPod()
		for range 20 { // the same program, as the cluster goes on
			c.step(t)
			c.bench().try(t, p, pod)
		}
	}
}

// P22.1: rows in any slots: the first and the last ones of nodes and of pods.
func TestSlotsAtTheEnds(t *testing.T) {
	w := world{
		nodes: []api.Node{{Name: "low", Labels: tags("host", "l", "zone", "x")}, {Name: "high", Labels: tags("host", "h", "zone", "x")}},
		slots: []int{0, last}, pods: []api.Pod{{Name: "p"}, {Name: "q", Labels: tags("app", "web")}}, podSlots: []int{lastPod, 0}, homes: []int{0, 1},
	}
	b := bench{w, w.index(t)}
	b.wants(t, api.Pod{}, "all 0; end", 0, last)
	b.wants(t, api.Pod{}, "none 0; not; end", 0, last)
	b.wants(t, api.Pod{}, "texts high; name 0; end", last)
	b.wants(t, api.Pod{}, "texts high; name 0; not; end", 0)
	b.wants(t, api.Pod{}, "all 1; near host; end", 0, last)
	b.wants(t, api.Pod{}, "texts web; label 1 app; near host; end", last)
	b.wants(t, api.Pod{}, "texts web; label 1 app; not; near host; end", 0)
	b.wants(t, api.Pod{}, "all 1; num 2; count zone ==; end", 0, last)
	b.takes(t, api.Pod{}, "all 1; jumpall out; not; out: near host; end", 4, 1)
}
