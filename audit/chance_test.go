package audit_test

import (
	"math/rand/v2"
	"slices"
	"strings"

	"berth/api"
)

// chance makes programs and bytes of a seed.
type chance struct{ *rand.Rand }

func newChance(seed uint64) chance { return chance{rand.New(rand.NewPCG(seed, 21))} }

func one[T any](r chance, list ...T) T { return list[r.IntN(len(list))] }

// writer writes code that is accepted: it knows the stack, and what the locals hold, behind what is written.
type writer struct {
	chance
	p     api.Program
	now   state
	jumps []open
}

// open is a jump that has no target yet, with what it leaves there.
type open struct {
	place int
	state
}

// instr is an instruction with operands that are there; a place in an empty pool, and a local where there is none, is 0.
func (w *writer) instr(o api.Op) api.Instr {
	i := op(o)
	for k, operand := range []*int{&i.A, &i.B, &i.C} {
		size := map[byte]int{'u': 2, 't': len(w.p.Texts), 'n': len(w.p.Nums), 's': len(w.p.Sets), 'm': len(w.p.NumSets), 'l': w.p.Locals, 'c': 6}[lines[o].operands[k]]
		*operand = w.IntN(max(size, 1))
		if lines[o].operands[k] == 'c' {
			*operand++
		}
	}
	return i
}

// may: whether an instruction has no fault behind what is written; its target isn't asked.
func (w *writer) may(i api.Instr) bool {
	l, stack := lines[i.Op], w.now.stack
	return i.Op != api.OpEnd && operandsAreThere(w.p, i) && len(stack) >= len(l.takes) && areOfKinds(stack[len(stack)-len(l.takes):], l.takes) &&
		(i.Op != api.OpLoad || w.now.locals[i.A] != '.') && len(stack)-len(l.takes)+len(l.puts) <= w.p.Depth
}

func (w *writer) put(i api.Instr) {
	w.now = behind(i, w.now)
	w.p.Code = append(w.p.Code, i)
	if isJump(i) {
		w.jumps = append(w.jumps, open{len(w.p.Code) - 1, w.now})
	}
	if w.IntN(2) == 0 {
		w.land()
	}
}

// land lets some of the open jumps that have left the same stack come here; what the locals held there may be another thing.
func (w *writer) land() {
	kept := w.jumps[:0:0]
	for _, jump := range w.jumps {
		if here := len(w.p.Code); jump.stack != w.now.stack || here == jump.place || w.IntN(3) == 0 {
			kept = append(kept, jump)
			continue
		}
		w.p.Code[jump.place].A = len(w.p.Code)
		w.now.locals = met(w.now.locals, jump.locals)
	}
	w.jumps = kept
}

// met is what two ways have in common of the locals.
func met(a, b string) string {
	out := []byte(a)
	for i := range out {
		if a[i] != b[i] {
			out[i] = '.'
		}
	}
	return string(out)
}

// feed writes what an Op takes, and the Op, as far as it may.
func (w *writer) feed(o api.Op) {
	kind := one(w.chance, "N", "P")
	for _, i := range append(puts(strings.NewReplacer("x", kind, "?", kind).Replace(lines[o].takes)), w.instr(o)) {
		if w.may(i) {
			w.put(i)
		}
	}
}

// program makes a program of about so many instructions that is accepted.
func (r chance) program(size int) api.Program {
	w := &writer{chance: r, p: api.Program{Depth: one(r, 2, 3, 5, 9), Locals: one(r, 0, 1, 2, 4, 40)}}
	w.p.Texts, w.p.Nums = []string{"a", "b", "c"}[:r.IntN(4)], []int{-1, 0, 9}[:r.IntN(4)]
	w.p.Sets, w.p.NumSets = [][]string{{"x"}, {"x", "y"}}[:r.IntN(3)], [][]int{{1}, {2, 3}}[:r.IntN(3)]
	w.now.locals = strings.Repeat(".", w.p.Locals)
	for len(w.p.Code) < size {
		i := w.instr(api.Op(1 + r.IntN(36)))
		if r.IntN(3) == 0 {
			w.feed(i.Op)
		} else if w.may(i) && (len(w.now.stack) < w.p.Depth-1 || len(lines[i.Op].takes) > 0) {
			w.put(i)
		}
	}
	for len(w.now.stack) > 0 && w.now.stack != "N" {
		w.put(op(api.OpPop))
	}
	if w.now.stack == "" {
		w.put(op(api.OpAll))
	}
	for _, jump := range w.jumps {
		if w.p.Code[jump.place] = op(api.OpNot); jump.stack == "N" {
			w.p.Code[jump.place] = op(one(r, api.OpJumpAll, api.OpJumpNone), len(w.p.Code))
		}
	}
	w.p.Code = append(w.p.Code, end())
	return w.p
}

// any makes an instruction of no order.
func (r chance) any() api.Instr {
	number := func() int { return one(r, 0, 0, 0, 1, 2, 3, -1, r.IntN(10), int(r.Uint64())) }
	return op(one(r, api.Op(r.IntN(38)), api.Op(r.IntN(38)), api.Op(r.IntN(38)), api.Op(int(r.Uint64()))), number(), number(), number())
}

// disturb changes one thing of a program: it may be refused.
func (r chance) disturb(p api.Program) api.Program {
	p.Code = slices.Clone(p.Code)
	at := r.IntN(len(p.Code))
	other := r.IntN(len(p.Code))
	w := &writer{chance: r, p: p}
	switch r.IntN(14) {
	case 0, 1:
		i := &p.Code[at]
		*one(r, &i.A, &i.B, &i.C) = one(r, 0, 1, -1, 2, 6, 7, r.IntN(len(p.Code)+1))
	case 2, 3:
		p.Code[at].Op = one(r, 0, 37, -1, api.Op(1+r.IntN(36)), api.Op(1+r.IntN(36)))
	case 4, 5:
		p.Code[at] = w.instr(api.Op(1 + r.IntN(36)))
	case 6:
		p.Code[at], p.Code[other] = p.Code[other], p.Code[at]
	case 7, 8:
		return shift(p, at, nil)
	case 9:
		return shift(p, at, []api.Instr{p.Code[at], w.instr(api.Op(1 + r.IntN(36)))})
	case 10:
		p.Depth += one(r, -1, -1, 1, -2, -9, 200)
	case 11:
		p.Locals += one(r, -1, -2, 1, -9, 2000)
	case 12:
		p.Texts, p.Nums = p.Texts[:r.IntN(len(p.Texts)+1)], p.Nums[:r.IntN(len(p.Nums)+1)]
	case 13:
		for place, i := range p.Code {
			if isJump(i) && r.IntN(3) == 0 {
				p.Code[place].A += one(r, -1, 1, 2)
			}
		}
	}
	return p
}

// shift puts other instructions in the place of one, and moves the targets behind it.
func shift(p api.Program, at int, others []api.Instr) api.Program {
	for place, i := range p.Code {
		if isJump(i) && i.A > at {
			p.Code[place].A += len(others) - 1
		}
	}
	p.Code = slices.Replace(p.Code, at, at+1, others...)
	return p
}

// turn changes bytes at one place, near the end rather than at the beginning: one turned, taken out or put in.
func (r chance) turn(b []byte) []byte {
	at := max(r.IntN(len(b)), r.IntN(len(b)))
	x := one(r, byte(r.IntN(256)), byte(r.IntN(40)), 0, 1, 2, 0x7f, 0x80, b[at]+1, b[at]-1)
	switch r.IntN(4) {
	case 0:
		return slices.Delete(slices.Clone(b), at, at+1)
	case 1:
		return slices.Insert(slices.Clone(b), at, x)
	}
	out := slices.Clone(b)
	out[at] = x
	return out
}
