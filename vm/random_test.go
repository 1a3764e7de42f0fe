package vm_test

import (
	"slices"
	"testing"

	"berth/api"
	"berth/audit"
	"berth/index"
	"berth/vm"
)

// P22.1 to P22.3: random programs over the indexes of random clusters, for raw pods; and with one thing or two disturbed.
func TestRandomPrograms(t *testing.T) {
	r := newChance(2)
	seen, ops := map[string]int{}, map[api.Op]int{}
	for range 700 {
		b := r.cluster(t, one(r, 0, 5, 30, 60, 60)).bench()
		for range 10 {
			p, pod := r.program(one(r, 2, 5, 10, 20, 40)), r.rawPod()
			slots, stat, e := b.try(t, p, pod)
			if e != api.OK {
				t.Fatalf("%s is refused", told(p))
			}
			for _, i := range p.Code {
				ops[i.Op]++
			}
			for range 4 {
				if len(slots) > 0 && len(slots) < len(b.w.nodes) {
					seen["some of the nodes"]++
				}
				slots, _, _ = b.try(t, reveal(p, r.IntN(len(p.Code))), pod)
			}
			if stat.Steps < len(p.Code) {
				seen["jumped"]++
			}
			for range 3 {
				if _, _, e := b.try(t, r.disturb(p), pod); e == api.OK {
					seen["disturbed and run"]++
				} else {
					seen["refused"]++
				}
			}
		}
	}
	for _, each := range []string{"some of the nodes", "jumped", "disturbed and run", "refused"} {
		if seen[each] < 1000 {
			t.Errorf("only %d: %s (%v)", seen[each], each, seen)
		}
	}
	for o := api.Op(1); o <= 36; o++ {
		if ops[o] < 300 {
			t.Errorf("only %d times %s", ops[o], lines[o].name)
		}
	}
}

// P22.1, P1: instructions of no order at all, and with an end behind them.
func TestAnyPrograms(t *testing.T) {
	b := ordinary(t)
	r := newChance(3)
	seen := map[api.Errno]int{}
	for range 40000 {
		p := r.pools()
		p.Depth, p.Locals = one(r, 0, 1, 2, 128, -1, 129), one(r, 0, 1, 2, 1024, 1025, -1)
		p.Code = slices.Repeat([]api.Instr{op(api.OpAll)}, r.IntN(3))
		for range r.IntN(6) {
			p.Code = append(p.Code, r.any())
		}
		if r.IntN(3) > 0 {
			p.Code = append(p.Code, op(api.OpEnd))
		}
		_, _, e := b.try(t, p, r.rawPod())
		seen[e]++
	}
	if seen[api.OK] < 300 || seen[api.ErrRefused] < 10000 {
		t.Error(seen)
	}
}

// P22.1, P22.2: all programs of at most five of a few instructions, with an end behind them.
func TestAllShortPrograms(t *testing.T) {
	b := ordinary(t)
	seen := map[api.Errno]int{}
	var look func(code []api.Instr)
	look = func(code []api.Instr) {
		few := []api.Instr{op(api.OpAll), op(api.OpNone), op(api.OpAll, 1), op(api.OpNear), op(api.OpNot), op(api.OpAndNot), op(api.OpSave), op(api.OpLoad)}
		for target := len(code) + 1; target <= 5; target++ {
			few = append(few, op(api.OpJumpNone, target), op(api.OpJumpAll, target))
		}
		p := api.Program{Texts: []string{"zone"}, Depth: 2, Locals: 1, Code: append(slices.Clone(code), op(api.OpEnd))}
		_, _, e := b.try(t, p, api.Pod{})
		seen[e]++
		if _, err := audit.Program(p); len(code) == 5 || err != nil && err.(*api.Fault).At < len(code)-1 && err.(*api.Fault).Code != api.ErrTarget {
			return
		}
		for _, i := range few {
			look(append(slices.Clone(code), i))
		}
	}
	look(nil)
	if seen[api.OK] < 2000 || seen[api.ErrRefused] < 2000 {
		t.Error(seen)
	}
}

// P22.1: what the audit refuses is refused, of each kind of fault, whatever the index is.
func TestRefused(t *testing.T) {
	b := ordinary(t)
	all, end := op(api.OpAll), op(api.OpEnd)
	with := func(depth, locals int, code ...api.Instr) api.Program {
		return api.Program{Texts: []string{"zone"}, Sets: [][]string{{"x"}}, Nums: []int{1}, NumSets: [][]int{{1}}, Depth: depth, Locals: locals, Code: code}
	}
	for code, list := range map[api.Errno][]api.Program{
		api.ErrDeclared: {with(129, 0, all, end), with(-1, 0, all, end), with(1, 1025, all, end), with(1, -1, all, end), {Texts: make([]string, 4097), Depth: 1, Code: []api.Instr{all, end}}},
		api.ErrInstr:    {with(1, 0, op(0), end), with(1, 0, op(37), end), with(1, 0, all, op(-1))},
		api.ErrOperand:  {with(1, 0, op(api.OpAll, 2), end), with(1, 0, op(api.OpAll, -1), end), with(1, 0, op(api.OpAll, 0, 1), end), with(1, 0, op(api.OpTexts, 1), op(api.OpTaint), end), with(1, 0, op(api.OpNum), op(api.OpCap, 0, 0, 7), end), with(1, 0, op(api.OpNum), op(api.OpCap, 0, 0, 0), end), with(1, 0, all, op(api.OpSave), all, end)},
		api.ErrTarget:   {with(1, 0, all, op(api.OpJumpNone, 1), end), with(1, 0, all, op(api.OpJumpNone, 0), end), with(1, 0, all, op(api.OpJumpAll, 3), end), with(1, 0, all, op(api.OpJumpAll, -1), end)},
		api.ErrUnder:    {with(1, 0, end), with(1, 0, all, op(api.OpAnd), end), with(1, 0, op(api.OpPop), all, end)},
		api.ErrKind:     {with(1, 0, op(api.OpAll, 1), end), with(1, 0, op(api.OpText), end), with(2, 0, all, op(api.OpAll, 1), op(api.OpOr), end), with(1, 0, all, op(api.OpNear), end), with(1, 0, op(api.OpText), op(api.OpNot), end)},
		api.ErrOver:     {with(0, 0, all, end), with(1, 0, all, all, op(api.OpAnd), end)},
		api.ErrLocal:    {with(1, 1, op(api.OpLoad), end), with(2, 2, all, op(api.OpSave), op(api.OpLoad, 1), end)},
		api.ErrJoin:     {with(2, 0, all, op(api.OpJumpNone, 3), all, op(api.OpAnd), end)},
		api.ErrStop:     {{}, with(1, 0), with(1, 0, all), with(2, 0, all, all, end), with(1, 0, all, end, end), with(1, 0, all, end, all)},
	} {
		for _, p := range list {
			if _, err := audit.Program(p); err == nil || err.(*api.Fault).Code != code {
				t.Errorf("%s: the audit says %v, not %d", told(p), err, code)
			}
			for _, x := range []*index.Index{b.x, index.New(), nil} {
				refused(t, p, x, someone())
				refused(t, p, x, api.Pod{})
			}
		}
	}
	if set, _, e := vm.Run(with(1, 0, all, end), b.x, api.Pod{}); e != api.OK || !slices.Equal(set.Members(), every) {
		t.Errorf("%v, %d", set.Members(), e)
	}
}
