package vm_test

import (
	"fmt"
	"slices"
	"strings"
	"testing"

	"berth/api"
	"berth/cluster"
	"berth/index"
	"berth/vm"
)

// join lays pieces of code one behind the other.
func join(pieces ...[]api.Instr) []api.Instr { return slices.Concat(pieces...) }

func times(n int, code ...api.Instr) []api.Instr { return slices.Repeat(code, n) }

// P22.1, P22.2: the greatest Depth, and one more.
func TestGreatestDepth(t *testing.T) {
	b := ordinary(t)
	all, and, end := op(api.OpAll), op(api.OpAnd), op(api.OpEnd)
	for _, cells := range []int{1, 2, 100, 127, 128, 129, 130} {
		for _, depth := range []int{cells - 1, cells, cells + 1, 128, 129} {
			p := api.Program{Depth: depth, Code: join(times(cells, all), times(cells-1, and), times(1, end))}
			slots, stat, e := b.try(t, p, someone())
			if is := cells <= depth && depth <= 128; !is {
				if e != api.ErrRefused {
					t.Errorf("%d cells, Depth %d: %d", cells, depth, e)
				}
			} else if e != api.OK || !slices.Equal(slots, every) || stat != (api.Stat{Steps: 2 * cells, Depth: cells}) {
				t.Errorf("%d cells, Depth %d: %v, %+v, %d", cells, depth, slots, stat, e)
			}
		}
	}
	deep := join(times(63, op(api.OpText)), times(63, op(api.OpAll, 1)), times(1, all), times(1, op(api.OpPodKeys)))
	p := api.Program{Texts: []string{"x"}, Depth: 128, Code: join(deep, times(128, op(api.OpPop)), times(1, all, end))}
	if _, stat, e := b.try(t, p, someone()); e != api.OK || stat != (api.Stat{Steps: 258, Depth: 128}) {
		t.Errorf("cells of all kinds: %+v, %d", stat, e)
	}
}

// P22.1, P22.2: the longest program, and one more; jumps over all of it.
func TestLongestProgram(t *testing.T) {
	b := ordinary(t)
	all, not, end := op(api.OpAll), op(api.OpNot), op(api.OpEnd)
	long := func(first api.Instr, size int) api.Program {
		return api.Program{Depth: 1, Code: join(times(1, first), times(size-2, not), times(1, end))}
	}
	for _, x := range []struct {
		p     api.Program
		slots []int
		steps int
	}{
		{long(all, 32768), every, 32768},
		{long(all, 32767), nil, 32767},
		{long(op(api.OpNone), 32768), nil, 32768},
	} {
		if slots, stat, e := b.try(t, x.p, someone()); e != api.OK || !slices.Equal(slots, x.slots) || stat != (api.Stat{Steps: x.steps, Depth: 1}) {
			t.Errorf("%d instructions: %v, %+v, %d", len(x.p.Code), slots, stat, e)
		}
	}
	refused(t, long(all, 32769), b.x, someone())
	p := long(all, 32768)
	p.Code[1] = op(api.OpJumpAll, 32767)
	if slots, stat, e := b.try(t, p, someone()); e != api.OK || !slices.Equal(slots, every) || stat != (api.Stat{Steps: 3, Depth: 1}) {
		t.Errorf("a jump over all: %v, %+v, %d", slots, stat, e)
	}
	p.Code = join(times(1, all), times(32766, op(api.OpJumpNone, 32767)), times(1, end))
	if _, stat, e := b.try(t, p, someone()); e != api.OK || stat.Steps != 32768 {
		t.Errorf("jumps that aren't taken: %+v, %d", stat, e)
	}
	for place := 1; place < 32767; place++ {
		p.Code[place] = op(api.OpJumpAll, place+1)
	}
	if _, stat, e := b.try(t, p, someone()); e != api.OK || stat.Steps != 32768 {
		t.Errorf("each to the next: %+v, %d", stat, e)
	}
}

// P22.1: the most locals, each with a bitmap of its own, and each saved again.
func TestMostLocals(t *testing.T) {
	b := ordinary(t)
	var saves, loads []api.Instr
	names := []string{"a", "b", "c", "d", "e"}
	for local := range 1024 {
		saves = append(saves, op(api.OpText, local%5), op(api.OpOne), op(api.OpName), op(api.OpSave, local))
	}
	for local := range 5 {
		loads = join(loads, times(1, op(api.OpLoad, 1023-local)))
	}
	for k := range 5 { // of the last five locals in turn
		p := api.Program{Texts: names, Depth: 2, Locals: 1024, Code: join(saves, times(1, loads[k], op(api.OpEnd)))}
		if slots, _, e := b.try(t, p, someone()); e != api.OK || !slices.Equal(slots, []int{every[(1023-k)%5]}) {
			t.Errorf("local %d: %v, %d", 1023-k, slots, e)
		}
	}
	p := api.Program{Texts: names, Depth: 2, Locals: 1024, Code: join(saves, saves[:4], saves[8:12], times(1, op(api.OpLoad, 0), op(api.OpLoad, 2), op(api.OpOr), op(api.OpLoad, 1023), op(api.OpOr), op(api.OpEnd)))}
	if slots, _, e := b.try(t, p, someone()); e != api.OK || !slices.Equal(slots, []int{0, 2, 63}) {
		t.Errorf("saved again: %v, %d", slots, e)
	}
	p.Locals = 1023
	refused(t, p, b.x, someone())
}

// full is a cluster with as many nodes and bound pods as there can be.
func full(t *testing.T) *cluster.Cluster {
	t.Helper()
	c := cluster.New()
	for i := range api.MaxNodes {
		n := api.Node{Name: fmt.Sprint("n", i), Labels: tags("host", fmt.Sprint(i), "zone", fmt.Sprint(i%300), "rack", fmt.Sprint(i%50)), Cap: []api.Item{{Name: "cpu", N: i % 9}}, Taints: []api.Taint{{Key: fmt.Sprint("t", i%30), Effect: api.NoSchedule}}}
		if _, err := c.Add(n); err != nil {
			t.Fatal(err)
		}
	}
	for i := range api.MaxPods {
		if _, err := c.Bind(api.Pod{Name: fmt.Sprint("p", i), Labels: tags("app", fmt.Sprint(i%11), "rank", fmt.Sprint(i%100))}, fmt.Sprint("n", i%api.MaxNodes)); err != nil {
			t.Fatal(err)
		}
	}
	return c
}

// P22.1, P1: programs full of each Op over the greatest index end.
func TestGreatestIndex(t *testing.T) {
	x := index.Build(full(t))
	pod := someone()
	pod.Labels = slices.Repeat(pod.Labels, 100)
	for o := api.Op(1); o < api.OpEnd; o++ {
		p := setting(o)
		first, round := p.Code[:2], p.Code[2:len(p.Code)-2]
		p.Code = slices.Clone(first)
		for len(p.Code)+len(round) < api.MaxCode-2 {
			for _, i := range round {
				if isJump(i) {
					i.A = len(p.Code) + 1
				}
				p.Code = append(p.Code, i)
			}
		}
		p.Code = append(p.Code, op(api.OpLoad), op(api.OpEnd))
		set, stat, e := vm.Run(p, x, pod)
		if e != api.OK || set.Count() != api.MaxNodes || stat.Steps != len(p.Code) {
			t.Errorf("%s: %d of the nodes, %+v, %d", lines[o].name, set.Count(), stat, e)
		}
	}
}

// P1: sets, texts and pods that are far greater than any that a cluster takes.
func TestGreatArguments(t *testing.T) {
	b := ordinary(t)
	long := strings.Repeat("x", 1<<20)
	var texts []string
	var nums []int
	for i := range 1 << 16 {
		texts, nums = append(texts, fmt.Sprint(i)), append(nums, -i)
	}
	pod := api.Pod{Name: long, Labels: append(slices.Repeat(tags(long, long), 5000), tags("zone", "x")...), Tolerations: slices.Repeat([]api.Toleration{{Key: long, Op: api.Exists}}, 1000)}
	for _, source := range []string{
		"podlabel zone; one; label 0 zone; end", "podkeys; has 0; end", "podkeys; taint; end", "podkeys; label 0 zone; end", "podkeys; name 0; end", "tolerated NoSchedule; end", "podname; one; name 0; end",
		"texts .; label 0 zone; end", "texts .; name 0; end", "texts .; has 0; end", "texts .; taint; end", "podname; texts .; member 0; end", "podname; podkeys; member 0; end",
		"nums .; numberin 0 rank; end", "nums .; capin cpu; end", "all 1; nums .; countin zone; end", "podname; int; nums .; among 0; end", "podlabel x; texts .; member 0; end", "text x; one; label 0 x; end",
	} {
		p := assemble(source)
		for i := range p.Sets {
			p.Sets[i] = append([]string{long, "x", "zone", "a"}, texts...)
		}
		for i := range p.NumSets {
			p.NumSets[i] = append([]int{3, 8}, nums...)
		}
		for i, text := range p.Texts {
			if text == "x" {
				p.Texts[i] = long
			}
		}
		b.try(t, p, pod)
	}
}
