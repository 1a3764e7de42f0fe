package vm_test

import (
	"slices"
	"testing"

	"berth/api"
	"berth/cluster"
	"berth/index"
	"berth/vm"
)

// exampleBench is the cluster of the chapter's examples.
func exampleBench(t *testing.T) bench {
	t.Helper()
	c := cluster.New()
	for _, n := range []api.Node{{Name: "a", Labels: tags("zone", "x", "rank", "3")}, {Name: "b", Labels: tags("zone", "y")}} {
		if _, err := c.Add(n); err != nil {
			t.Fatal(err)
		}
	}
	return bench{worldOf(c), index.Build(c)}
}

// P22.1, P22.2: the chapter's examples.
func TestExamples(t *testing.T) {
	b := exampleBench(t)
	all, end := op(api.OpAll), op(api.OpEnd)
	texts := []string{"app", "rank", "zone"}
	for _, x := range []struct {
		name  string
		p     api.Program
		slots []int
		stat  api.Stat
	}{
		{"1", api.Program{Texts: texts, Depth: 1, Code: []api.Instr{all, end}}, []int{0, 1}, api.Stat{Steps: 2, Depth: 1}},
		{"2", api.Program{Texts: texts, Sets: [][]string{{"x", "z"}}, Depth: 1, Code: []api.Instr{op(api.OpTexts, 0), op(api.OpLabel, 0, 2), op(api.OpNot), end}}, []int{1}, api.Stat{Steps: 4, Depth: 1}},
		{"3", api.Program{Texts: texts, Nums: []int{3}, Depth: 1, Code: []api.Instr{op(api.OpNum, 0), op(api.OpNumber, 0, 1, int(api.CmpNe)), end}}, nil, api.Stat{Steps: 3, Depth: 1}},
		{"3, with CmpGe", api.Program{Texts: texts, Nums: []int{3}, Depth: 1, Code: []api.Instr{op(api.OpNum, 0), op(api.OpNumber, 0, 1, int(api.CmpGe)), end}}, []int{0}, api.Stat{Steps: 3, Depth: 1}},
		{"4", api.Program{Texts: texts, Depth: 2, Code: []api.Instr{op(api.OpNone), op(api.OpJumpNone, 4), all, op(api.OpAnd), end}}, nil, api.Stat{Steps: 3, Depth: 1}},
		{"4, with OpAll", api.Program{Texts: texts, Depth: 2, Code: []api.Instr{all, op(api.OpJumpNone, 4), all, op(api.OpAnd), end}}, []int{0, 1}, api.Stat{Steps: 5, Depth: 2}},
		{"5", api.Program{Texts: []string{"web", "app"}, Depth: 1, Code: []api.Instr{op(api.OpPodLabel, 1), op(api.OpOne), op(api.OpLabel, 0, 1), end}}, nil, api.Stat{Steps: 4, Depth: 1}},
	} {
		pod := api.Pod{Labels: tags("app", "web")}
		if slots, stat, e := b.try(t, x.p, pod); e != api.OK || !slices.Equal(slots, x.slots) || stat != x.stat {
			t.Errorf("%s: %v, %+v, %d", x.name, slots, stat, e)
		}
	}
}

// The error's number is that of the document.
func TestNumber(t *testing.T) {
	if api.ErrRefused != 220 || len(lines) != 37 || int(api.OpEnd) != 36 {
		t.Errorf("%d, %d lines", api.ErrRefused, len(lines)-1)
	}
	if set, stat, e := vm.Run(api.Program{}, nil, api.Pod{}); set != nil || stat != (api.Stat{}) || e != 220 {
		t.Errorf("no instruction: %v, %v, %d", set, stat, e)
	}
}
