package vm

import (
	"berth/api"
	"berth/bitset"
)

// act is what the machine does at an instruction.
type act struct {
	do func(m *machine, i api.Instr)
}

// acts is the table of what each Op does.
func acts() []act {
	return []act{
		api.OpNone:      finds((*machine).nothing),
		api.OpAll:       finds((*machine).all),
		api.OpText:      puts((*machine).text),
		api.OpTexts:     puts((*machine).texts),
		api.OpNum:       puts((*machine).num),
		api.OpNums:      puts((*machine).nums),
		api.OpPodLabel:  puts((*machine).podLabel),
		api.OpPodName:   puts((*machine).podName),
		api.OpPodKeys:   puts((*machine).podKeys),
		api.OpOne:       puts((*machine).one),
		api.OpInt:       puts((*machine).integer),
		api.OpLabel:     finds((*machine).label),
		api.OpName:      finds((*machine).name),
		api.OpHas:       finds((*machine).has),
		api.OpTaint:     finds((*machine).tainted),
		api.OpNumber:    finds((*machine).number),
		api.OpNumberIn:  finds((*machine).numberIn),
		api.OpCap:       finds((*machine).capacity),
		api.OpCapIn:     finds((*machine).capacityIn),
		api.OpCount:     finds((*machine).count),
		api.OpCountIn:   finds((*machine).countIn),
		api.OpNear:      finds((*machine).near),
		api.OpTolerated: finds((*machine).tolerated),
		api.OpMember:    finds((*machine).member),
		api.OpCompare:   finds((*machine).compare),
		api.OpAmong:     finds((*machine).among),
		api.OpAnd:       joins(bitset.And),
		api.OpOr:        joins(bitset.Or),
		api.OpAndNot:    joins(bitset.AndNot),
		api.OpNot:       puts((*machine).not),
		api.OpSave:      {(*machine).save},
		api.OpLoad:      puts((*machine).load),
		api.OpJumpNone:  jumps((*machine).isNone),
		api.OpJumpAll:   jumps((*machine).isAll),
		api.OpPop:       {(*machine).drop},
		api.OpEnd:       {(*machine).end},
	}
}

// puts makes an act that puts a cell.
func puts(made func(m *machine, i api.Instr) cell) act {
	return act{func(m *machine, i api.Instr) { m.push(made(m, i)) }}
}

// finds makes an act that puts a bitmap of u, which is the operand A; where an Op has none, A is 0 and the bitmap is one of nodes.
func finds(found func(m *machine, i api.Instr) *bitset.Set) act {
	return act{func(m *machine, i api.Instr) { m.push(cell{u: i.A, set: found(m, i)}) }}
}

// joins makes an act that puts one bitmap for two of its kind.
func joins(joined func(a, b *bitset.Set) *bitset.Set) act {
	return act{func(m *machine, _ api.Instr) {
		second, first := m.pop(), m.pop()
		m.push(cell{u: first.u, set: joined(first.set, second.set)})
	}}
}

// jumps makes an act that goes on elsewhere, if the bitmap on top is such.
func jumps(is func(m *machine, top cell) bool) act {
	return act{func(m *machine, i api.Instr) {
		if is(m, m.top()) {
			m.next = i.A
		}
	}}
}
