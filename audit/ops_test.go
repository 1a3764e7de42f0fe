package audit_test

import (
	"math"
	"slices"
	"testing"

	"berth/api"
)

// stacksOf are all lists of so many cells, of every kind.
func stacksOf(cells int) []string {
	if cells == 0 {
		return []string{""}
	}
	var out []string
	for _, under := range stacksOf(cells - 1) {
		for _, kind := range "NPtnTM" {
			out = append(out, under+string(kind))
		}
	}
	return out
}

// lawful is an instruction with operands that are there in a small program: its target is the next place, its local is 0.
func lawful(o api.Op, place int) api.Instr {
	i := op(o)
	for k, operand := range []*int{&i.A, &i.B, &i.C} {
		*operand = map[byte]int{'c': 1, 'j': place + 1}[lines[o].operands[k]]
	}
	return i
}

// P21.1, P21.3: each Op with each stack of at most three cells ahead of it: it is accepted just with the cells that the table says, and leaves what the table says.
func TestEachOpWithEachStack(t *testing.T) {
	for o := api.Op(1); o < api.OpEnd; o++ {
		accepted := 0
		for cells := range 4 {
			for _, stack := range stacksOf(cells) {
				ahead := join(op(api.OpAll), op(api.OpSave), puts(stack))
				left := max(cells-len(lines[o].takes)+len(lines[o].puts), 0)
				p := small(128, join(ahead, lawful(o, len(ahead)), finish(left))...)
				want := fault{}
				if cells < len(lines[o].takes) {
					want = fault{api.ErrUnder, len(ahead)}
				} else if !areOfKinds(stack[cells-len(lines[o].takes):], lines[o].takes) {
					want = fault{api.ErrKind, len(ahead)}
				} else {
					accepted++
				}
				if got, _ := try(t, p); got != want {
					t.Errorf("%s: %v, want %v", told(p), got, want)
				}
			}
		}
		if accepted == 0 {
			t.Errorf("no stack suits %s", lines[o].name)
		}
	}
}

// P21.1: OpEnd with each stack of at most three cells ahead of it.
func TestEndWithEachStack(t *testing.T) {
	for cells := range 4 {
		for _, stack := range stacksOf(cells) {
			p := small(128, join(puts(stack), end())...)
			switch {
			case cells == 0:
				wantFault(t, stack, p, api.ErrUnder, cells)
			case stack[cells-1] != 'N':
				wantFault(t, stack, p, api.ErrKind, cells)
			case cells > 1:
				wantFault(t, stack, p, api.ErrStop, cells)
			default:
				wantDepth(t, stack, p, 1)
			}
		}
	}
}

// setting is the code that makes ready for an Op, and the program with the Op behind it.
func setting(o api.Op) (int, api.Program) {
	stack := map[string]string{"xx": "NN", "x": "N", "?": "N"}[lines[o].takes]
	if stack == "" {
		stack = lines[o].takes
	}
	ahead := join(op(api.OpAll), op(api.OpSave), puts(stack))
	rest := finish(len(stack) - len(lines[o].takes) + len(lines[o].puts))
	if o == api.OpEnd {
		rest = nil
	}
	return len(ahead), small(128, join(ahead, lawful(o, len(ahead)), rest)...)
}

// P21.1: each operand of each Op, at the last lawful one and one behind it, at the first and one ahead of it, and far off; what an Op doesn't use is 0.
func TestEachOperand(t *testing.T) {
	for o := api.Op(1); o <= 36; o++ {
		place, p := setting(o)
		wantDepth(t, lines[o].name, p, max(len(lines[o].takes), 1))
		for k, what := range lines[o].operands {
			least := map[rune]int{'c': 1, 'j': place + 1}[what]
			most := map[rune]int{'.': 0, 'u': 1, 't': 2, 'n': 3, 's': 4, 'm': 5, 'c': 6, 'l': 6, 'j': len(p.Code) - 1}[what]
			for _, n := range []int{least, most, least - 1, most + 1, -1, 1, 7, 100, 65535, 65536, math.MaxInt, math.MinInt} {
				x := p
				x.Texts, x.Nums, x.Sets, x.NumSets, x.Locals = make([]string, 3), make([]int, 4), make([][]string, 5), make([][]int, 6), 7
				x.Code = slices.Clone(p.Code)
				*[]*int{&x.Code[place].A, &x.Code[place].B, &x.Code[place].C}[k] = n
				got, _ := try(t, x)
				wrong := fault{api.ErrOperand, place}
				if what == 'j' {
					wrong.code = api.ErrTarget
				}
				if is := n >= least && n <= most; is == (got == wrong) {
					t.Errorf("%s with the operand %d: %v", told(x), n, got)
				}
			}
		}
	}
}

// P21.1: operands in pools without an element, and locals where there are none.
func TestEmptyPools(t *testing.T) {
	for o := api.Op(1); o <= 36; o++ {
		for k, what := range lines[o].operands {
			place, p := setting(o)
			switch what {
			case 't':
				p.Texts = nil
			case 'n':
				p.Nums = nil
			case 's':
				p.Sets = nil
			case 'm':
				p.NumSets = nil
			default:
				continue
			}
			if got, _ := try(t, p); got.code != api.ErrOperand || got.at > place || got.at < place && p.Code[got.at].Op != api.OpNum && p.Code[got.at].Op != api.OpNums {
				t.Errorf("%s, operand %d: %v", told(p), k, got)
			}
		}
	}
	for _, o := range []api.Op{api.OpSave, api.OpLoad} {
		p := small(2, op(api.OpAll), op(o), op(api.OpPop), end())
		p.Locals = 0
		wantFault(t, "no locals", p, api.ErrOperand, 1)
	}
}

// P21.1: Ops that aren't there, at each place of a program.
func TestNoOps(t *testing.T) {
	for _, o := range []api.Op{0, 37, -1, 38, 255, 256, 256 + 2, math.MaxInt, math.MinInt} {
		for place := range 4 {
			p := small(2, op(api.OpAll), op(api.OpNot), op(api.OpNot), end())
			p.Code[place].Op = o
			wantFault(t, "no Op", p, api.ErrInstr, place)
			p.Code[place] = op(o, 99, -1, 7)
			wantFault(t, "no Op", p, api.ErrInstr, place)
		}
	}
}

// P21.1: the kinds of bitmaps go through the Ops that put what they take.
func TestKindsGoThrough(t *testing.T) {
	for u, kind := range []string{"N", "P"} {
		for _, o := range []api.Op{api.OpNot, api.OpAnd, api.OpOr, api.OpAndNot, api.OpJumpNone, api.OpJumpAll, api.OpSave} {
			stack := kind
			if len(lines[o].takes) == 2 {
				stack += kind
			}
			code := join(puts(stack), lawful(o, len(stack)))
			if o == api.OpSave {
				code = join(code, op(api.OpLoad))
			}
			last := len(code)
			p := small(9, join(code, end())...)
			if u == 0 {
				wantDepth(t, lines[o].name, p, len(stack))
			} else {
				wantFault(t, lines[o].name, p, api.ErrKind, last)
				wantDepth(t, lines[o].name, small(9, join(code, op(api.OpNear), end())...), len(stack))
			}
		}
	}
}
