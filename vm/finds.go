package vm

import (
	"slices"

	"berth/api"
	"berth/bitset"
	"berth/compare"
)

// The acts of the Ops that find a bitmap.

func (m *machine) nothing(i api.Instr) *bitset.Set { return m.none(i.A) }

func (m *machine) all(i api.Instr) *bitset.Set { return m.live[i.A] }

func (m *machine) label(i api.Instr) *bitset.Set {
	return m.index.Label(sides[i.A], m.program.Texts[i.B], m.pop().texts)
}

func (m *machine) name(i api.Instr) *bitset.Set { return m.index.Name(sides[i.A], m.pop().texts) }

func (m *machine) has(i api.Instr) *bitset.Set { return m.index.Has(sides[i.A], m.pop().texts) }

func (m *machine) tainted(api.Instr) *bitset.Set { return m.index.Tainted(m.pop().texts) }

func (m *machine) number(i api.Instr) *bitset.Set {
	n := m.pop()
	if !n.known {
		return m.none(i.A)
	}
	return m.index.Number(sides[i.A], m.program.Texts[i.B], api.Cmp(i.C), n.num)
}

func (m *machine) numberIn(i api.Instr) *bitset.Set {
	return m.index.NumberIn(sides[i.A], m.program.Texts[i.B], m.pop().nums)
}

func (m *machine) capacity(i api.Instr) *bitset.Set {
	n := m.pop()
	if !n.known {
		return m.none(i.A)
	}
	return m.index.Cap(m.program.Texts[i.B], api.Cmp(i.C), n.num)
}

func (m *machine) capacityIn(i api.Instr) *bitset.Set {
	return m.index.CapIn(m.program.Texts[i.B], m.pop().nums)
}

func (m *machine) count(i api.Instr) *bitset.Set {
	n, pods := m.pop(), m.pop()
	if !n.known {
		return m.none(i.A)
	}
	return m.index.Count(m.program.Texts[i.B], pods.set, api.Cmp(i.C), n.num)
}

func (m *machine) countIn(i api.Instr) *bitset.Set {
	ns, pods := m.pop(), m.pop()
	return m.index.CountIn(m.program.Texts[i.B], pods.set, ns.nums)
}

func (m *machine) near(i api.Instr) *bitset.Set {
	return m.index.Near(m.program.Texts[i.B], m.pop().set)
}

func (m *machine) tolerated(i api.Instr) *bitset.Set {
	return m.index.Tolerated(m.pod.Tolerations, m.program.Texts[i.B])
}

func (m *machine) member(i api.Instr) *bitset.Set {
	set, text := m.pop(), m.pop()
	return m.allIf(i.A, text.known && slices.Contains(set.texts, text.text))
}

func (m *machine) compare(i api.Instr) *bitset.Set {
	second, first := m.pop(), m.pop()
	return m.allIf(i.A, first.known && second.known && compare.Stands(first.num, api.Cmp(i.C), second.num))
}

func (m *machine) among(i api.Instr) *bitset.Set {
	set, n := m.pop(), m.pop()
	return m.allIf(i.A, n.known && slices.Contains(set.nums, n.num))
}
