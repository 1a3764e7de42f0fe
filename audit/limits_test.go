package audit_test

import (
	"fmt"
	"math"
	"slices"
	"testing"
	"time"

	"berth/api"
	"berth/audit"
)

// long is code of so many instructions that is accepted.
func long(size int) []api.Instr {
	return join(op(api.OpAll), slices.Repeat([]api.Instr{op(api.OpNot)}, size-2), end())
}

// P21.1: the most instructions, and one more.
func TestMostInstructions(t *testing.T) {
	wantDepth(t, "32768", small(1, long(32768)...), 1)
	wantFault(t, "32769", small(1, long(32769)...), api.ErrDeclared, -1)
	wantFault(t, "32769 of no Op", small(1, make([]api.Instr, 32769)...), api.ErrDeclared, -1)
	wantFault(t, "32768 of no Op", small(1, make([]api.Instr, 32768)...), api.ErrInstr, 0)
	p := small(1, long(32768)...)
	p.Code[1] = op(api.OpJumpNone, 32767)
	wantDepth(t, "a jump to the last one", p, 1)
	p.Code[32766] = op(api.OpJumpNone, 32767)
	wantDepth(t, "a jump to the next one", p, 1)
	p.Code[32766] = op(api.OpJumpNone, 32768)
	wantFault(t, "a jump behind the end", p, api.ErrTarget, 32766)
	p.Code[32766] = op(api.OpNear)
	wantFault(t, "a kind at the end", p, api.ErrKind, 32766)
	p.Code[32767] = op(api.OpNot)
	p.Code[32766] = op(api.OpNot)
	wantFault(t, "no end", p, api.ErrStop, 32767)
}

// P21.1: Depth and Locals at their limits and far off.
func TestDeclared(t *testing.T) {
	for _, x := range []struct {
		depth, locals int
		is            bool
	}{
		{1, 0, true}, {128, 0, true}, {1, 1024, true}, {128, 1024, true}, {129, 0, false}, {-1, 0, false}, {1, 1025, false}, {1, -1, false},
		{math.MaxInt, 0, false}, {math.MinInt, 0, false}, {1, math.MaxInt, false}, {1, math.MinInt, false}, {129, 1025, false}, {-1, -1, false},
	} {
		p := small(x.depth, op(api.OpAll), end())
		if p.Locals = x.locals; x.is {
			wantDepth(t, "declared", p, 1)
		} else {
			wantFault(t, "declared", p, api.ErrDeclared, -1)
			p.Code = nil
			wantFault(t, "declared, and no instruction", p, api.ErrDeclared, -1)
			p.Code = join(op(99))
			wantFault(t, "declared, and no Op", p, api.ErrDeclared, -1)
		}
	}
	wantFault(t, "Depth 0", small(0, op(api.OpAll), end()), api.ErrOver, 0)
}

// P21.1: stacks of Depth cells and of one more, by each Op that puts a cell without taking one.
func TestStacksOfDepthCells(t *testing.T) {
	for _, depth := range []int{1, 2, 5, 127, 128} {
		fill := join(op(api.OpAll), op(api.OpSave), slices.Repeat(puts("N"), depth-1))
		for o := api.Op(1); o <= 36; o++ {
			if lines[o].takes != "" {
				continue
			}
			wantDepth(t, "full", small(depth, join(fill, lawful(o, 0), finish(depth))...), depth)
			p := small(depth, join(fill, op(api.OpNone), lawful(o, 0), finish(depth+1))...)
			wantFault(t, "one more", p, api.ErrOver, len(fill)+1)
			if p.Depth++; depth < 128 {
				wantDepth(t, "one more, declared", p, depth+1)
			}
		}
		for _, o := range []api.Op{api.OpNot, api.OpJumpAll} {
			ahead := slices.Repeat(puts("N"), depth)
			wantDepth(t, "full, and no cell more", small(depth, join(ahead, lawful(o, depth), finish(depth))...), depth)
		}
	}
}

// pools makes a program whose pools have so many elements.
func pools(texts, nums, sets, numSets int) api.Program {
	return api.Program{Texts: make([]string, texts), Nums: make([]int, nums), Sets: make([][]string, sets), NumSets: make([][]int, numSets), Depth: 2, Code: join(op(api.OpAll), end())}
}

// P21.1: the most elements in all pools together and one more; operands at the last place and one behind it.
func TestMostElements(t *testing.T) {
	for _, sizes := range [][4]int{{4096}, {0, 4096}, {0, 0, 4096}, {0, 0, 0, 4096}, {1024, 1024, 1024, 1024}, {1, 2, 3, 4090}, {4093, 1, 1, 1}} {
		p := pools(sizes[0], sizes[1], sizes[2], sizes[3])
		wantDepth(t, "4096 elements", p, 1)
		for k, o := range []api.Op{api.OpText, api.OpNum, api.OpTexts, api.OpNums} {
			p.Code = join(op(o, sizes[k]), op(api.OpPop), op(api.OpAll), end())
			wantFault(t, "behind the last place", p, api.ErrOperand, 0)
			if p.Code[0].A--; sizes[k] > 0 {
				wantDepth(t, "the last place", p, 1)
			}
		}
		for k := range sizes {
			more := sizes
			more[k]++
			wantFault(t, "4097 elements", pools(more[0], more[1], more[2], more[3]), api.ErrDeclared, -1)
		}
	}
}

// P21.1: the most locals, each saved with a kind of its own and loaded; and saved again on one of two ways.
func TestMostLocals(t *testing.T) {
	kind := func(local int) int { return local % 3 % 2 }
	var code []api.Instr
	for local := range 1024 {
		code = join(code, op(api.OpAll, kind(local)), op(api.OpSave, local))
	}
	saved := len(code)
	for local := range 1024 {
		if code = join(code, op(api.OpLoad, local)); kind(local) == 1 {
			code = join(code, op(api.OpNear))
		}
		if local > 0 {
			code = join(code, op(api.OpOr))
		}
	}
	p := small(2, join(code, end())...)
	p.Locals = 1024
	wantDepth(t, "all", p, 2)
	p.Locals = 1023
	wantFault(t, "one too few", p, api.ErrOperand, saved-1)
	for _, local := range []int{0, 1, 31, 32, 33, 63, 64, 511, 1000, 1022, 1023} {
		for _, u := range []int{0, 1} {
			ahead := join(code[:saved], op(api.OpAll), op(api.OpJumpNone, saved+4), op(api.OpAll, u), op(api.OpSave, local))
			var loads []api.Instr
			for other := range 1024 {
				if other != local || u == kind(local) {
					loads = join(loads, op(api.OpLoad, other), op(api.OpPop))
				}
			}
			p := small(2, join(ahead, loads, end())...)
			p.Locals = 1024
			wantDepth(t, "the others stay set", p, 2)
			if p.Code = join(ahead, op(api.OpLoad, local), op(api.OpPop), end()); u == kind(local) {
				wantDepth(t, "saved again with its kind", p, 2)
			} else {
				wantFault(t, "saved again with the other kind", p, api.ErrLocal, len(ahead))
			}
			p = small(2, join(op(api.OpAll), op(api.OpSave, local), op(api.OpLoad, (local+1)%1024), end())...)
			p.Locals = 1024
			wantFault(t, "its neighbour isn't set", p, api.ErrLocal, 2)
			p.Code[2].A = (local + 1023) % 1024
			wantFault(t, "its neighbour isn't set", p, api.ErrLocal, 2)
		}
	}
}

// quickly holds a great program against what is known of it, and that the calls take no long time.
func quickly(t *testing.T, name string, p api.Program, want fault, depth int) {
	t.Helper()
	begin := time.Now()
	shape, err := audit.Program(p)
	stacks, wrong := audit.Stacks(p)
	if took := time.Since(begin); took > 10*time.Second {
		t.Errorf("%s: took %v", name, took)
	}
	if want != (fault{}) {
		if !isFault(err, want) || !isFault(wrong, want) {
			t.Errorf("%s: %v, %v, want %v", name, err, wrong, want)
		}
		return
	}
	if err != nil || wrong != nil || shape != (api.Shape{Depth: depth, Steps: len(p.Code)}) || len(stacks) != len(p.Code) {
		t.Errorf("%s: %v, %v, %d stacks, %v, want the depth %d", name, shape, err, len(stacks), wrong, depth)
	}
}

// P21.1, P21.3, P1: as many jumps as there can be, over a full stack and with all locals set: to places all of their own, to one place, each to the next; with locals that come and go on the ways.
func TestMostJumps(t *testing.T) {
	ahead := slices.Repeat(puts("N"), 127)
	for local := range 1024 {
		ahead = join(ahead, op(api.OpAll, local%2), op(api.OpSave, local))
	}
	ahead = join(ahead, op(api.OpAll))
	rest := join(slices.Repeat(join(op(api.OpAnd)), 127), end())
	jumps := (32768 - len(ahead) - len(rest)) / 2
	build := func(target func(k, first int) int, between func(k int) api.Instr) api.Program {
		p := small(128, ahead...)
		p.Locals = 1024
		for k := range jumps {
			p.Code = append(p.Code, op(api.OpJumpNone, target(k, len(ahead))))
		}
		for k := range jumps {
			p.Code = append(p.Code, between(k))
		}
		p.Code = append(p.Code, rest...)
		return p
	}
	not := func(int) api.Instr { return op(api.OpNot) }
	quickly(t, "all to places of their own", build(func(k, first int) int { return first + jumps + k }, not), fault{}, 128)
	quickly(t, "the last jump first", build(func(k, first int) int { return first + 2*jumps - 1 - k }, not), fault{}, 128)
	quickly(t, "all to one place", build(func(k, first int) int { return first + 2*jumps }, not), fault{}, 128)
	quickly(t, "each to the next", build(func(k, first int) int { return first + k + 1 }, not), fault{}, 128)
	quickly(t, "all to one place, with a stack of one less", build(func(k, first int) int { return first + 2*jumps + 1 }, not), fault{api.ErrJoin, len(ahead) + 2*jumps + 1}, 0)
	p := build(func(k, first int) int { return first + jumps + k }, func(k int) api.Instr { return op([]api.Op{api.OpSave, api.OpAll}[k%2]) })
	quickly(t, "unlike stacks", p, fault{api.ErrJoin, len(ahead) + jumps + 1}, 0)

	code := slices.Clone(ahead[127 : len(ahead)-1])
	for k := 0; len(code) < 32000; k++ {
		code = append(code, op(api.OpAll), op(api.OpJumpAll, len(code)+4), op(api.OpAll, 1-k%2), op(api.OpSave, k%1024), op(api.OpPop))
	}
	for k, is := range []bool{false, false, true} {
		code := slices.Clone(code)
		want := fault{}
		if !is {
			want = fault{api.ErrLocal, len(code)}
		} else {
			code = join(code, op(api.OpAll, 1), op(api.OpSave, k))
		}
		p := small(2, join(code, op(api.OpLoad, k), op(api.OpPop), op(api.OpAll), end())...)
		p.Locals = 1024
		quickly(t, fmt.Sprint("saved on one of two ways, ", k), p, want, 2)
	}
}
