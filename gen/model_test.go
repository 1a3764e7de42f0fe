package gen_test

import (
	"slices"

	"berth/api"
)

// line is an instruction that holds its constant itself; a jump says how many lines on it leads.
type line struct {
	op       api.Op
	u        int
	constant any // a string, an int, a []string or a []int
	rel      api.Cmp
	local    int
	on       int
}

// model makes the code of parts as pieces that are laid behind one another.
type model struct {
	d     api.Dag
	saved []int
}

// selectorsOf is the selector of a part, in a list.
func selectorsOf(part api.DagPart) []int {
	switch {
	case part.Lit.Kind == api.LitNear:
		return []int{part.Lit.Sel}
	case part.Lit.Term.Kind == api.TermCount:
		return []int{part.Lit.Term.Sel}
	}
	return nil
}

// uses are the places that a part has as its kids and as its selector.
func uses(part api.DagPart) []int { return slices.Concat(part.Kids, selectorsOf(part)) }

// reachedParts are the places that the Root reaches: those that what was reached last uses, till there are no others.
func reachedParts(d api.Dag) map[int]bool {
	out, last := map[int]bool{d.Root: true}, []int{d.Root}
	for len(last) > 0 {
		var next []int
		for _, place := range last {
			for _, used := range uses(d.Parts[place]) {
				if !out[used] {
					out[used], next = true, append(next, used)
				}
			}
		}
		last = next
	}
	return out
}

func newModel(d api.Dag) model {
	often := map[int]int{}
	for place := range reachedParts(d) {
		for _, used := range uses(d.Parts[place]) {
			often[used]++
		}
	}
	m := model{d: d}
	for place, part := range d.Parts {
		if often[place] > 1 && part.Kind != api.DTrue && part.Kind != api.DFalse {
			m.saved = append(m.saved, place)
		}
	}
	return m
}

func (m model) code(place int) []line {
	if local := slices.Index(m.saved, place); local >= 0 {
		return []line{{op: api.OpLoad, local: local}}
	}
	return m.own(place)
}

func (m model) own(place int) []line {
	part := m.d.Parts[place]
	u := map[bool]int{true: 1}[part.Pods]
	switch part.Kind {
	case api.DTrue:
		return []line{{op: api.OpAll, u: u}}
	case api.DFalse:
		return []line{{op: api.OpNone, u: u}}
	case api.DNot:
		return append(m.code(part.Kids[0]), line{op: api.OpNot})
	case api.DLit:
		return m.literal(part.Lit, u)
	}
	return m.joint(part)
}

// joint lays the first kid's piece and, for each further kid, a jump and a piece with what joins it: a jump leads over all pieces that are left.
func (m model) joint(part api.DagPart) []line {
	jump, left := api.OpJumpAll, 0
	var pieces [][]line
	for _, kid := range part.Kids[1:] {
		join := api.OpOr
		if part.Kind == api.DAnd {
			jump, join = api.OpJumpNone, api.OpAnd
			if m.d.Parts[kid].Kind == api.DNot && !slices.Contains(m.saved, kid) {
				kid, join = m.d.Parts[kid].Kids[0], api.OpAndNot
			}
		}
		piece := append(m.code(kid), line{op: join})
		pieces = append(pieces, piece)
		left += 1 + len(piece)
	}
	out := m.code(part.Kids[0])
	for _, piece := range pieces {
		out = append(append(out, line{op: jump, on: left}), piece...)
		left -= 1 + len(piece)
	}
	return out
}

func worthOf(t api.Term) []line {
	switch t.Kind {
	case api.TermText:
		return []line{{op: api.OpText, constant: t.Key}}
	case api.TermLabel:
		return []line{{op: api.OpPodLabel, constant: t.Key}}
	case api.TermName:
		return []line{{op: api.OpPodName}}
	}
	return []line{{op: api.OpPodLabel, constant: t.Key}, {op: api.OpInt}}
}

// lay lays lines and pieces behind one another.
func lay(pieces ...any) []line {
	var out []line
	for _, piece := range pieces {
		switch x := piece.(type) {
		case line:
			out = append(out, x)
		case []line:
			out = append(out, x...)
		}
	}
	return out
}

// literal follows the chapter's list of literals.
func (m model) literal(l api.Lit, u int) []line {
	one := line{op: api.OpOne}
	switch l.Kind {
	case api.LitIn:
		return m.setLiteral(l, u)
	case api.LitRel:
		return m.compared(l, u, []line{{op: api.OpNum, constant: l.Num}})
	case api.LitPod:
		other := worthOf(l.Other)
		if l.Other.Kind == api.TermNumber {
			return m.compared(l, u, other)
		}
		return textLiteral(l.Term, u, lay(other, one))
	case api.LitKeys:
		if l.Of == api.OfPod {
			return textLiteral(l.Term, u, lay(line{op: api.OpPodKeys}))
		}
		return lay(worthOf(l.Term), one, line{op: api.OpHas, u: u})
	case api.LitTaints:
		return lay(worthOf(l.Term), one, line{op: api.OpTaint})
	case api.LitTol:
		return lay(line{op: api.OpTolerated, constant: l.Key})
	}
	return lay(m.code(l.Sel), line{op: api.OpNear, constant: l.Key})
}

// textLiteral asks whether a text term is in the set that these lines put.
func textLiteral(t api.Term, u int, set []line) []line {
	switch {
	case t.Kind == api.TermText, t.Side == api.OfPod:
		return lay(worthOf(t), set, line{op: api.OpMember, u: u})
	case t.Kind == api.TermName:
		return lay(set, line{op: api.OpName, u: u})
	}
	return lay(set, line{op: api.OpLabel, u: u, constant: t.Key})
}

func (m model) setLiteral(l api.Lit, u int) []line {
	t, set := l.Term, line{op: api.OpNums, constant: l.Nums}
	switch {
	case len(l.Texts)+len(l.Nums) == 0:
		return lay(line{op: api.OpNone, u: u})
	case t.Kind == api.TermNumber && t.Side == api.OfPod:
		return lay(worthOf(t), set, line{op: api.OpAmong, u: u})
	case t.Kind == api.TermNumber:
		return lay(set, line{op: api.OpNumberIn, u: u, constant: t.Key})
	case t.Kind == api.TermCap:
		return lay(set, line{op: api.OpCapIn, constant: t.Key})
	case t.Kind == api.TermCount:
		return lay(m.code(t.Sel), set, line{op: api.OpCountIn, constant: t.Key})
	}
	return textLiteral(t, u, lay(line{op: api.OpTexts, constant: l.Texts}))
}

// compared holds a number term against the number that these lines put.
func (m model) compared(l api.Lit, u int, number []line) []line {
	t := l.Term
	switch {
	case t.Kind == api.TermCap:
		return lay(number, line{op: api.OpCap, constant: t.Key, rel: l.Rel})
	case t.Kind == api.TermCount:
		return lay(m.code(t.Sel), number, line{op: api.OpCount, constant: t.Key, rel: l.Rel})
	case t.Side == api.OfPod:
		return lay(worthOf(t), number, line{op: api.OpCompare, u: u, rel: l.Rel})
	}
	return lay(number, line{op: api.OpNumber, u: u, constant: t.Key, rel: l.Rel})
}

// modelGen is P19.1 for a valid dag.
func modelGen(d api.Dag) (api.Program, api.Errno) {
	m := newModel(d)
	var lines []line
	for local, place := range m.saved {
		lines = append(append(lines, m.own(place)...), line{op: api.OpSave, local: local})
	}
	lines = append(append(lines, m.code(d.Root)...), line{op: api.OpEnd})
	p := assembled(lines)
	p.Locals = len(m.saved)
	p.Depth = deepest(p)
	switch {
	case p.Depth > 128:
		return api.Program{}, api.ErrDeep
	case len(p.Code) > 32768, len(p.Texts)+len(p.Nums)+len(p.Sets)+len(p.NumSets) > 4096, p.Locals > 1024:
		return api.Program{}, api.ErrGreat
	}
	return p, api.OK
}

// ahead: whether one set stands ahead of another, by the chapter's words.
func ahead[T string | int](x, y []T) int {
	for i := range min(len(x), len(y)) {
		if x[i] < y[i] {
			return -1
		}
		if x[i] > y[i] {
			return 1
		}
	}
	return len(x) - len(y)
}

// assembled is P19.2: the lines with their constants in the pools.
func assembled(lines []line) api.Program {
	var p api.Program
	for _, l := range lines {
		switch x := l.constant.(type) {
		case string:
			p.Texts = append(p.Texts, x)
		case int:
			p.Nums = append(p.Nums, x)
		case []string:
			p.Sets = append(p.Sets, x)
		case []int:
			p.NumSets = append(p.NumSets, x)
		}
	}
	slices.Sort(p.Texts)
	slices.Sort(p.Nums)
	slices.SortFunc(p.Sets, ahead[string])
	slices.SortFunc(p.NumSets, ahead[int])
	p.Texts, p.Nums = slices.Compact(p.Texts), slices.Compact(p.Nums)
	p.Sets, p.NumSets = slices.CompactFunc(p.Sets, slices.Equal), slices.CompactFunc(p.NumSets, slices.Equal)
	for place, l := range lines {
		p.Code = append(p.Code, placed(p, l, place))
	}
	return p
}

// placed is a line as the instruction at this place.
func placed(p api.Program, l line, place int) api.Instr {
	named := 0
	switch x := l.constant.(type) {
	case string:
		named, _ = slices.BinarySearch(p.Texts, x)
	case int:
		named, _ = slices.BinarySearch(p.Nums, x)
	case []string:
		named = slices.IndexFunc(p.Sets, func(set []string) bool { return slices.Equal(set, x) })
	case []int:
		named = slices.IndexFunc(p.NumSets, func(set []int) bool { return slices.Equal(set, x) })
	}
	i := api.Instr{Op: l.op}
	operands := table[l.op].operands
	for k, operand := range []*int{&i.A, &i.B, &i.C} {
		switch operands[k] {
		case 'u':
			*operand = l.u
		case 't', 's', 'n', 'm':
			*operand = named
		case 'c':
			*operand = int(l.rel)
		case 'l':
			*operand = l.local
		case 'j':
			*operand = place + l.on
		}
	}
	return i
}
