package audit_test

import (
	"math"
	"slices"
	"testing"

	"berth/api"
)

// P21.1: targets at the place itself, ahead of it, above it, at the last instruction and behind it.
func TestTargets(t *testing.T) {
	for _, jump := range []api.Op{api.OpJumpNone, api.OpJumpAll} {
		for size := 3; size < 7; size++ {
			for place := 1; place < size-1; place++ {
				for _, target := range []int{math.MinInt, -1, 0, 1, 2, 3, 4, 5, 6, 7, 65535, 65536, math.MaxInt} {
					p := small(1, join(op(api.OpAll), slices.Repeat([]api.Instr{op(api.OpNot)}, size-2), end())...)
					p.Code[place] = op(jump, target)
					if target > place && target < size {
						wantDepth(t, "a target", p, 1)
					} else {
						wantFault(t, "a target", p, api.ErrTarget, place)
					}
				}
			}
		}
		wantFault(t, "the last instruction jumps", small(1, op(api.OpAll), op(jump, 1)), api.ErrTarget, 1)
		wantFault(t, "the last instruction jumps", small(1, op(api.OpAll), op(jump, 2)), api.ErrTarget, 1)
		wantFault(t, "the only instruction jumps", small(1, op(jump, 0)), api.ErrTarget, 0)
		wantFault(t, "the only instruction jumps", small(1, op(jump, 1)), api.ErrTarget, 0)
	}
}

// P21.1, P21.5: where OpEnd stands, and what the last instruction is. No way leads behind an OpEnd: that it isn't the last instruction is told.
func TestStops(t *testing.T) {
	all, jump := op(api.OpAll), op(api.OpJumpNone, 3)
	wantFault(t, "no instruction", api.Program{}, api.ErrStop, 0)
	wantFault(t, "no instruction", small(128), api.ErrStop, 0)
	for o := api.Op(1); o < api.OpEnd; o++ {
		place, p := setting(o)
		p.Code = p.Code[:place+1]
		if isJump(p.Code[place]) {
			wantFault(t, "the last is a jump", p, api.ErrTarget, place)
		} else {
			wantFault(t, "the last is no OpEnd", p, api.ErrStop, place)
		}
	}
	wantFault(t, "an end ahead of the end", small(1, all, end(), all, end()), api.ErrStop, 1)
	wantFault(t, "a jump over an end", small(1, all, jump, end(), end()), api.ErrStop, 2)
	wantFault(t, "places that no way leads to", small(1, all, end(), op(99), op(api.OpAnd, 7)), api.ErrStop, 1)
	wantFault(t, "an end at the beginning", small(1, end(), all, end()), api.ErrStop, 0)
	wantFault(t, "one cell left", small(2, all, all, end()), api.ErrStop, 2)
	wantFault(t, "a text left", small(2, op(api.OpPodName), all, end()), api.ErrStop, 2)
	wantFault(t, "many cells left", small(128, join(slices.Repeat(puts("P"), 127), all, end())...), api.ErrStop, 128)
}

// meets is code in which a jump leaves one stack and going on leaves another, behind it instructions of which the first is where they meet.
func meets(jumps, goesOn string, rest ...api.Instr) []api.Instr {
	ahead := join(puts(jumps), op(api.OpJumpNone))
	between := join(slices.Repeat([]api.Instr{op(api.OpPop)}, len(jumps)), puts(goesOn))
	ahead[len(jumps)].A = len(ahead) + len(between)
	return join(ahead, between, rest)
}

// P21.1: two ways that meet with unlike stacks, by their length and by a kind, at each cell; and with like ones.
func TestWaysThatMeet(t *testing.T) {
	var stacks []string
	for cells := range 4 {
		stacks = append(stacks, stacksOf(cells)...)
	}
	for _, jumps := range []string{"N", "P", "NN", "tN", "PtN", "MTP", "nnN"} {
		for _, goesOn := range stacks {
			p := small(9, meets(jumps, goesOn, finish(len(jumps))...)...)
			if jumps == goesOn {
				wantDepth(t, "like stacks", p, len(jumps))
			} else {
				wantFault(t, "unlike stacks", p, api.ErrJoin, 2*len(jumps)+1+len(goesOn))
			}
		}
	}
}

// P21.1: several jumps to one place, of which the first, one between or the last leaves another stack, or only going on does.
func TestSeveralJumpsMeet(t *testing.T) {
	all, pop, pods := op(api.OpAll), op(api.OpPop), op(api.OpAll, 1)
	for odd := -1; odd < 5; odd++ {
		var code []api.Instr
		var jumps []int
		for k := range 4 {
			if k == odd {
				code = join(code, pop, pods)
			} else {
				code = join(code, pop, all)
			}
			jumps = append(jumps, len(code))
			code = append(code, op(api.OpJumpAll))
		}
		if odd == 4 {
			code = join(code, pop, pods)
		} else {
			code = join(code, pop, all)
		}
		code = code[1:]
		for _, place := range jumps {
			code[place-1].A = len(code)
		}
		p := small(1, join(code, op(api.OpNot), pop, all, end())...)
		if odd < 0 {
			wantDepth(t, "like stacks", p, 1)
		} else {
			wantFault(t, "unlike stacks", p, api.ErrJoin, len(code))
		}
	}
	p := small(2, all, op(api.OpJumpNone, 5), pods, op(api.OpJumpNone, 5), pop, op(api.OpNot), end())
	wantFault(t, "two jumps with unlike stacks, going on with the first's", p, api.ErrJoin, 5)
	p.Code[4] = op(api.OpNot)
	wantFault(t, "two jumps with unlike stacks, going on with the second's", p, api.ErrJoin, 5)
}

// P21.1: jumps to several places, one within another, one behind another and across: each place has its own stack.
func TestJumpsToSeveralPlaces(t *testing.T) {
	all, not, and := op(api.OpAll), op(api.OpNot), op(api.OpAnd)
	none := func(target int) api.Instr { return op(api.OpJumpNone, target) }
	wantDepth(t, "within", small(3, all, none(8), all, none(6), all, and, op(api.OpJumpAll, 7), and, end()), 3)
	wantDepth(t, "behind one another", small(2, all, none(4), all, and, none(7), all, and, end()), 2)
	wantDepth(t, "across", small(1, all, none(4), none(5), not, not, not, end()), 1)
	wantDepth(t, "to the next place", small(1, all, none(2), none(3), none(4), end()), 1)
	wantFault(t, "within", small(3, all, none(5), all, none(6), all, and, and, end()), api.ErrJoin, 5)
	wantDepth(t, "the greatest stack lies on one way", small(4, all, none(8), all, all, all, and, and, and, end()), 4)
}

// P21.1: locals that are saved on all ways and on some, with one kind and with two, again and again.
func TestLocals(t *testing.T) {
	all, pods, pop := op(api.OpAll), op(api.OpAll, 1), op(api.OpPop)
	save, load := op(api.OpSave), op(api.OpLoad)
	wantFault(t, "never saved", small(2, load, end()), api.ErrLocal, 0)
	wantFault(t, "another one is saved", small(2, all, op(api.OpSave, 1), load, end()), api.ErrLocal, 2)
	wantFault(t, "saved later", small(2, load, save, all, end()), api.ErrLocal, 0)
	wantFault(t, "saved ahead of the jump alone", small(2, all, op(api.OpJumpNone, 4), save, all, load, pop, end()), api.ErrLocal, 4)
	wantDepth(t, "saved ahead of the jump", small(2, all, save, all, op(api.OpJumpNone, 5), op(api.OpNot), load, op(api.OpOr), end()), 2)
	wantDepth(t, "saved behind the meeting", small(2, all, op(api.OpJumpNone, 4), save, all, save, load, end()), 1)
	wantDepth(t, "saved again with another kind", small(2, all, save, pods, save, load, op(api.OpNear), end()), 1)
	wantFault(t, "saved again with another kind", small(2, all, save, pods, save, load, end()), api.ErrKind, 5)
	wantDepth(t, "loaded ahead of being saved again", small(2, all, save, load, pods, save, load, pop, end()), 2)
	wantDepth(t, "loaded twice", small(2, all, save, load, load, op(api.OpAndNot), end()), 2)
	wantDepth(t, "two locals", small(2, all, save, pods, op(api.OpSave, 1), load, op(api.OpLoad, 1), op(api.OpNear), op(api.OpAnd), end()), 2)

	onOneWay := func(first, second []api.Instr) api.Program {
		code := join(first, all, op(api.OpJumpNone, len(first)+2+len(second)), second, load, pop, end())
		return small(3, code...)
	}
	saved := func(kinds ...api.Instr) []api.Instr {
		var out []api.Instr
		for _, kind := range kinds {
			out = join(out, kind, save)
		}
		return out
	}
	for _, x := range []struct {
		name          string
		first, second []api.Instr
		is            bool
	}{
		{"on no way", nil, nil, false},
		{"on one way", nil, saved(all), false},
		{"ahead of both", saved(all), nil, true},
		{"pods, ahead of both", saved(pods), nil, true},
		{"on both, with one kind", saved(all), saved(all), true},
		{"on both, with pods", saved(pods), saved(pods), true},
		{"on both, with two kinds", saved(all), saved(pods), false},
		{"on both, with two kinds", saved(pods), saved(all), false},
		{"with another kind, and back", saved(all), saved(pods, all), true},
		{"the last one counts", saved(pods, all), saved(all), true},
		{"the last one counts", saved(all, pods), saved(pods, all), false},
	} {
		p := onOneWay(x.first, x.second)
		if x.is {
			wantDepth(t, x.name, p, 2)
		} else {
			wantFault(t, x.name, p, api.ErrLocal, len(x.first)+2+len(x.second))
		}
		if nothing := slices.IndexFunc(p.Code, func(i api.Instr) bool { return i.Op == api.OpLoad }); !x.is {
			p.Code[nothing] = op(api.OpPodName)
			wantDepth(t, x.name+", and not loaded", p, 2)
		}
	}
}

// P21.1: a local that is set on one way alone stays unset behind later meetings, until it is saved; one that two ways left unlike, too. What one meeting takes away stays set at others.
func TestLocalsAtLaterMeetings(t *testing.T) {
	all, not, save, pop := op(api.OpAll), op(api.OpNot), op(api.OpSave), op(api.OpPop)
	none := func(target int) api.Instr { return op(api.OpJumpNone, target) }
	load := join(op(api.OpLoad), pop)
	code := join(all, none(4), save, all, none(6), not, load, end())
	wantFault(t, "at the next meeting", small(2, code...), api.ErrLocal, 6)
	code = join(all, none(4), save, all, none(8), save, all, not, load, end())
	wantFault(t, "saved on one way of the next one", small(2, code...), api.ErrLocal, 8)
	code = join(all, none(4), save, all, save, all, none(8), not, load, end())
	wantDepth(t, "saved between", small(2, code...), 2)
	code = join(all, none(3), not, save, all, none(7), not, load, end())
	wantDepth(t, "unset at the first meeting, set at the second", small(2, code...), 2)
	code = join(all, none(3), none(8), save, all, none(7), not, not, load, end())
	wantFault(t, "the second jump comes without it", small(2, code...), api.ErrLocal, 8)
	code = join(all, op(api.OpSave, 1), all, none(6), save, all, op(api.OpLoad, 1), pop, load, end())
	wantFault(t, "one of two is lost", small(2, code...), api.ErrLocal, 8)
	wantDepth(t, "the other one isn't", small(2, join(code[:8], end())...), 2)
}

// P21.1: several faults at one place: the first line of the table that is true of it is told.
func TestFaultsAtOnePlace(t *testing.T) {
	all, pods, load := op(api.OpAll), op(api.OpAll, 1), op(api.OpLoad)
	for _, x := range []struct {
		name string
		p    api.Program
		code api.Errno
		at   int
	}{
		{"no Op, an operand", small(1, all, op(37, 99), end()), api.ErrInstr, 1},
		{"no Op, no end", small(1, all, op(0)), api.ErrInstr, 1},
		{"no Op, unlike stacks", small(9, meets("N", "P", op(-1), end())...), api.ErrInstr, 4},
		{"an operand, a target", small(1, all, op(api.OpJumpAll, 0, 1), end()), api.ErrOperand, 1},
		{"an operand, a target", small(1, all, op(api.OpJumpNone, 9, 0, 1), end()), api.ErrOperand, 1},
		{"an operand, an end ahead of the end", small(1, all, op(api.OpEnd, 1), end()), api.ErrOperand, 1},
		{"an operand, no end", small(1, all, op(api.OpAll, 2)), api.ErrOperand, 1},
		{"an operand, unlike stacks", small(9, meets("N", "P", op(api.OpNot, 1), end())...), api.ErrOperand, 4},
		{"an operand, too few", small(1, op(api.OpLabel, 2), end()), api.ErrOperand, 0},
		{"an operand, a kind", small(1, all, op(api.OpName, 2), end()), api.ErrOperand, 1},
		{"an operand, not set", small(1, op(api.OpLoad, 2), end()), api.ErrOperand, 0},
		{"an operand, too many", small(0, op(api.OpAll, 2), end()), api.ErrOperand, 0},
		{"a target, no end", small(1, all, op(api.OpJumpAll, 2)), api.ErrTarget, 1},
		{"a target, unlike stacks", small(9, meets("N", "P", op(api.OpJumpNone, 4), end())...), api.ErrTarget, 4},
		{"a target, too few", small(1, op(api.OpJumpNone, 0), end()), api.ErrTarget, 0},
		{"a target, a kind", small(1, op(api.OpPodName), op(api.OpJumpNone, 1), end()), api.ErrTarget, 1},
		{"an end ahead of the end, unlike stacks", small(9, meets("N", "P", end(), end())...), api.ErrStop, 4},
		{"no end, unlike stacks", small(9, meets("N", "P", op(api.OpNot))...), api.ErrStop, 4},
		{"an end ahead of the end, too few", small(9, end(), all, end()), api.ErrStop, 0},
		{"an end ahead of the end, a kind", small(9, pods, end(), all, end()), api.ErrStop, 1},
		{"an end ahead of the end, cells left", small(9, all, all, end(), end()), api.ErrStop, 2},
		{"no end, too few", small(9, op(api.OpNot)), api.ErrStop, 0},
		{"no end, a kind", small(9, op(api.OpPodName), op(api.OpNot)), api.ErrStop, 1},
		{"no end, not set", small(9, load), api.ErrStop, 0},
		{"no end, too many", small(0, all), api.ErrStop, 0},
		{"unlike stacks, too few", small(9, meets("N", "", op(api.OpNot), end())...), api.ErrJoin, 3},
		{"unlike stacks, too few", small(9, meets("N", "NN", op(api.OpAnd), end())...), api.ErrJoin, 5},
		{"unlike stacks, a kind", small(9, meets("N", "t", op(api.OpNot), end())...), api.ErrJoin, 4},
		{"unlike stacks, a kind on both ways", small(9, meets("tN", "tP", op(api.OpOne), end())...), api.ErrJoin, 7},
		{"unlike stacks, not set", small(9, meets("N", "P", load, end())...), api.ErrJoin, 4},
		{"unlike stacks, too many", small(1, meets("N", "P", all, end())...), api.ErrJoin, 4},
		{"unlike stacks, cells left", small(9, meets("tN", "nN", end())...), api.ErrJoin, 7},
		{"too few, a kind", small(9, op(api.OpPodName), op(api.OpAnd), end()), api.ErrUnder, 1},
		{"too few, a kind", small(9, all, op(api.OpMember), end()), api.ErrUnder, 1},
		{"a kind, cells left", small(9, all, pods, end()), api.ErrKind, 2},
		{"not set, too many", small(0, load, end()), api.ErrLocal, 0},
		{"not set, too many", small(1, all, load, end()), api.ErrLocal, 1},
	} {
		wantFault(t, x.name, x.p, x.code, x.at)
	}
}

// P21.1: faults at several places: the first place is told, whatever its fault is; what is declared goes ahead of all places.
func TestFaultsAtSeveralPlaces(t *testing.T) {
	faults := []struct {
		instr api.Instr
		code  api.Errno
	}{
		{op(37), api.ErrInstr}, {op(api.OpNot, 1), api.ErrOperand}, {op(api.OpJumpNone, 0), api.ErrTarget}, {end(), api.ErrStop},
		{op(api.OpAnd), api.ErrUnder}, {op(api.OpNear), api.ErrKind}, {op(api.OpLoad), api.ErrLocal}, {op(api.OpNone), api.ErrOver},
	}
	for _, first := range faults {
		for _, second := range faults {
			p := small(1, op(api.OpAll), op(api.OpNot), first.instr, op(api.OpNot), second.instr, end())
			wantFault(t, "two places", p, first.code, 2)
			p.Code[2] = op(api.OpNot)
			wantFault(t, "the second place", p, second.code, 4)
			p.Depth = 129
			wantFault(t, "declared", p, api.ErrDeclared, -1)
		}
		p := small(1, op(api.OpAll), op(api.OpJumpNone, 5), op(api.OpNot), first.instr, op(api.OpPop), op(api.OpNot), end())
		wantFault(t, "ahead of the place where unlike stacks meet", p, first.code, 3)
		p.Code[3] = op(api.OpNot)
		wantFault(t, "the place where unlike stacks meet", p, api.ErrJoin, 5)
	}
	wantFault(t, "no instruction, and too deep", api.Program{Depth: 129}, api.ErrDeclared, -1)
	wantFault(t, "no instruction, and too many locals", api.Program{Locals: 1025}, api.ErrDeclared, -1)
	wantFault(t, "a jump to a place that has a fault of its own", small(9, meets("N", "P", op(99))...), api.ErrInstr, 4)
	wantFault(t, "a place between has a fault", small(2, op(api.OpAll), op(api.OpJumpNone, 4), op(api.OpAll), op(api.OpNear), end()), api.ErrKind, 3)
}
