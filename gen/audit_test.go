package gen_test

import (
	"fmt"
	"slices"
	"strings"

	"berth/api"
)

func rise[T string | int](list []T) bool {
	for i := range list {
		if i > 0 && list[i-1] >= list[i] {
			return false
		}
	}
	return true
}

func setsRise[T string | int](sets [][]T) bool {
	for i, set := range sets {
		if len(set) < 1 || len(set) > 1000 || !rise(set) || i > 0 && ahead(sets[i-1], set) >= 0 {
			return false
		}
	}
	return true
}

// hasForm: chapter 20, 'A program has a form'; what is wrong, else the empty text.
func hasForm(p api.Program) string {
	long := func(s string) bool { return len(s) > 127 }
	far := func(n int) bool { return n < -most-1 || n > most+1 }
	switch {
	case !rise(p.Texts) || !rise(p.Nums) || !setsRise(p.Sets) || !setsRise(p.NumSets):
		return "a list doesn't rise"
	case slices.ContainsFunc(slices.Concat(p.Texts, slices.Concat(p.Sets...)), long):
		return "a long text"
	case slices.ContainsFunc(slices.Concat(p.Nums, slices.Concat(p.NumSets...)), far):
		return "a long number"
	case len(p.Texts)+len(p.Nums)+len(p.Sets)+len(p.NumSets) > 4096 || len(p.Code) > 32768:
		return "too many elements or instructions"
	case p.Depth < 0 || p.Depth > 128 || p.Locals < 0 || p.Locals > 1024:
		return "too deep, or too many locals"
	}
	for place, i := range p.Code {
		if i.Op < 1 || i.Op > 36 {
			return fmt.Sprint("no Op at ", place)
		}
		for k, n := range operandsOf(i) {
			if used := table[i.Op].operands[k] != '.'; n < 0 || n > 65535 || !used && n != 0 {
				return fmt.Sprintf("operand %d at %d is %d", k, place, n)
			}
		}
	}
	return ""
}

// walk goes over all ways through a program, by chapter 21: it has the stack ahead of each place (a letter a cell: N, P, t, n, T, M) and what the locals hold there.
type walk struct {
	p      api.Program
	stacks []string
	locals []string // a letter a local: N, P, or a point
	known  []bool
}

// audited is the fault that chapter 21 finds in a program, else the empty text, with the stacks ahead of the places.
func audited(p api.Program) (string, []string) {
	n := len(p.Code)
	w := walk{p, make([]string, n), make([]string, n), make([]bool, n)}
	if n == 0 {
		return "no instruction", nil
	}
	w.locals[0], w.known[0] = strings.Repeat(".", p.Locals), true
	for place := range p.Code {
		if fault := w.step(place); fault != "" {
			return fmt.Sprintf("%s at %d", fault, place), nil
		}
	}
	return "", w.stacks
}

// inRange: whether the operands are what the table asks for.
func (w *walk) inRange(i api.Instr) bool {
	sizes := map[byte][2]int{'.': {0, 1}, 'u': {0, 2}, 't': {0, len(w.p.Texts)}, 's': {0, len(w.p.Sets)}, 'n': {0, len(w.p.Nums)}, 'm': {0, len(w.p.NumSets)}, 'c': {1, 7}, 'l': {0, w.p.Locals}, 'j': {0, len(w.p.Code)}}
	for k, n := range operandsOf(i) {
		if size := sizes[table[i.Op].operands[k]]; n < size[0] || n >= size[1] {
			return false
		}
	}
	return true
}

func (w *walk) step(place int) string {
	i := w.p.Code[place]
	stack, row := w.stacks[place], table[i.Op]
	jumps := i.Op == api.OpJumpNone || i.Op == api.OpJumpAll
	switch {
	case !w.inRange(i):
		return "operand"
	case jumps && i.A <= place:
		return "target"
	case (i.Op == api.OpEnd) != (place == len(w.p.Code)-1):
		return "stop"
	case !w.known[place]:
		return "no way"
	case len(stack) < len(row.takes):
		return "under"
	}
	under, taken := stack[:len(stack)-len(row.takes)], stack[len(stack)-len(row.takes):]
	if !fits(taken, row.takes) {
		return "kind"
	}
	if i.Op == api.OpLoad && w.locals[place][i.A] == '.' {
		return "local"
	}
	behind := under + w.puts(place, row.puts, taken)
	if len(behind) > w.p.Depth {
		return "over"
	}
	if i.Op == api.OpEnd {
		if behind != "" {
			return "stop"
		}
		return ""
	}
	locals := w.locals[place]
	if i.Op == api.OpSave {
		locals = locals[:i.A] + taken + locals[i.A+1:]
	}
	if fault := w.meet(place+1, behind, locals); fault != "" || !jumps {
		return fault
	}
	return w.meet(i.A, behind, locals)
}

// fits: whether the cells are of the kinds that the table names; several bitmaps are of one kind.
func fits(cells, kinds string) bool {
	for i := range cells {
		bitmap := cells[i] == 'N' || cells[i] == 'P'
		if kinds[i] == 'x' && (!bitmap || cells[i] != cells[0]) || kinds[i] != 'x' && kinds[i] != cells[i] {
			return false
		}
	}
	return true
}

func (w *walk) puts(place int, puts, taken string) string {
	switch puts {
	case "b":
		return []string{"N", "P"}[w.p.Code[place].A]
	case "x":
		return taken[:1]
	case "l":
		return w.locals[place][w.p.Code[place].A : w.p.Code[place].A+1]
	}
	return puts
}

// meet takes down what a way leaves ahead of a place; all ways leave the same stack there, and what a local holds for sure is what it holds on all of them.
func (w *walk) meet(place int, stack, locals string) string {
	if !w.known[place] {
		w.stacks[place], w.locals[place], w.known[place] = stack, locals, true
		return ""
	}
	if w.stacks[place] != stack {
		return "join"
	}
	both := []byte(locals)
	for i := range both {
		if both[i] != w.locals[place][i] {
			both[i] = '.'
		}
	}
	w.locals[place] = string(both)
	return ""
}

// deepest is how high the stack gets on any way, by the table: of a program that the model makes.
func deepest(p api.Program) int {
	p.Depth = len(p.Code)
	fault, stacks := audited(p)
	if fault != "" {
		panic("the model's program: " + fault)
	}
	deep := 0
	for _, stack := range stacks {
		deep = max(deep, len(stack))
	}
	return deep
}
