package audit_test

import (
	"strings"

	"berth/api"
)

// state is what a way leaves ahead of a place: a letter for each cell of the stack, and one for each local: N, P, or a point as long as no OpSave of it stood on the way.
type state struct{ stack, locals string }

// verdict is what chapter 21 says of a program: the first fault, or the stack ahead of each place.
type verdict struct {
	code   api.Errno
	at     int
	stacks []string
}

// judge goes over all ways to each place; of ways that leave the same it goes on with one.
func judge(p api.Program) verdict {
	pools := len(p.Texts) + len(p.Nums) + len(p.Sets) + len(p.NumSets)
	if len(p.Code) > 32768 || p.Depth < 0 || p.Depth > 128 || p.Locals < 0 || p.Locals > 1024 || pools > 4096 {
		return verdict{code: 210, at: -1}
	}
	if len(p.Code) == 0 {
		return verdict{code: 219, at: 0}
	}
	ways := make([]map[state]bool, len(p.Code))
	ways[0] = map[state]bool{{"", strings.Repeat(".", p.Locals)}: true}
	out := verdict{}
	for place, i := range p.Code {
		if number := faultAt(p, place, ways[place]); number != 0 {
			return verdict{code: number, at: place}
		}
		for s := range ways[place] {
			if len(out.stacks) == place {
				out.stacks = append(out.stacks, s.stack)
			}
			for _, next := range nextOf(p, place) {
				if ways[next] == nil {
					ways[next] = map[state]bool{}
				}
				ways[next][behind(i, s)] = true
			}
		}
		ways[place] = nil
	}
	return out
}

func isJump(i api.Instr) bool { return i.Op == 33 || i.Op == 34 }

// nextOf are the places that come behind one.
func nextOf(p api.Program, place int) []int {
	switch i := p.Code[place]; {
	case i.Op == 36:
		return nil
	case isJump(i):
		return []int{place + 1, i.A}
	}
	return []int{place + 1}
}

// behind is what an instruction leaves of what is ahead of it.
func behind(i api.Instr, s state) state {
	l := lines[i.Op]
	under, taken := s.stack[:len(s.stack)-len(l.takes)], s.stack[len(s.stack)-len(l.takes):]
	if i.Op == 31 {
		s.locals = s.locals[:i.A] + taken + s.locals[i.A+1:]
	}
	switch l.puts {
	case "b":
		under += string("NP"[i.A])
	case "x":
		under += taken[:1]
	case "l":
		under += s.locals[i.A : i.A+1]
	default:
		under += l.puts
	}
	return state{under, s.locals}
}

// faultAt is the first line of chapter 21's second table that is true of a place.
func faultAt(p api.Program, place int, ways map[state]bool) api.Errno {
	i := p.Code[place]
	if i.Op < 1 || i.Op > 36 {
		return 211
	}
	l := lines[i.Op]
	if !operandsAreThere(p, i) {
		return 212
	}
	if isJump(i) && (i.A <= place || i.A >= len(p.Code)) {
		return 213
	}
	if isLast := place == len(p.Code)-1; (i.Op == 36) != isLast {
		return 219
	}
	stack, isOne := oneStack(ways)
	if !isOne {
		return 218
	}
	if len(stack) < len(l.takes) {
		return 214
	}
	if !areOfKinds(stack[len(stack)-len(l.takes):], l.takes) {
		return 215
	}
	if i.Op == 32 && !isSet(ways, i.A) {
		return 217
	}
	size := len(stack) - len(l.takes) + len(l.puts)
	if size > p.Depth {
		return 216
	}
	if i.Op == 36 && size > 0 {
		return 219
	}
	return 0
}

func operandsAreThere(p api.Program, i api.Instr) bool {
	least := map[byte]int{'c': 1}
	size := map[byte]int{'.': 1, 'u': 2, 't': len(p.Texts), 'n': len(p.Nums), 's': len(p.Sets), 'm': len(p.NumSets), 'c': 7, 'l': p.Locals}
	for k, n := range operandsOf(i) {
		what := lines[i.Op].operands[k]
		if what != 'j' && (n < least[what] || n >= size[what]) {
			return false
		}
	}
	return true
}

// oneStack: whether all ways leave one stack, and which.
func oneStack(ways map[state]bool) (string, bool) {
	stacks := map[string]bool{}
	last := ""
	for s := range ways {
		last = s.stack
		stacks[last] = true
	}
	return last, len(stacks) == 1
}

// isSet: whether on all ways the local was saved, the last time with one kind.
func isSet(ways map[state]bool, local int) bool {
	kinds := map[byte]bool{}
	for s := range ways {
		kinds[s.locals[local]] = true
	}
	return len(kinds) == 1 && !kinds['.']
}

// areOfKinds: whether the cells are of the kinds that the table says; bitmaps that are taken together are of one kind.
func areOfKinds(cells, kinds string) bool {
	for k := range cells {
		cell, kind := cells[k:k+1], kinds[k:k+1]
		is := cell == kind
		switch kind {
		case "x":
			is = cells == "N" || cells == "P" || cells == "NN" || cells == "PP"
		case "?":
			is = true
		}
		if !is {
			return false
		}
	}
	return true
}
