package vm

import (
	"berth/api"
	"berth/bitset"
	"berth/labels"
)

// The acts of the Ops that take texts, numbers and bitmaps as they are, and ask no index.

func (m *machine) text(i api.Instr) cell { return cell{text: m.program.Texts[i.A], known: true} }

func (m *machine) texts(i api.Instr) cell { return cell{texts: m.program.Sets[i.A]} }

func (m *machine) num(i api.Instr) cell { return cell{num: m.program.Nums[i.A], known: true} }

func (m *machine) nums(i api.Instr) cell { return cell{nums: m.program.NumSets[i.A]} }

func (m *machine) podLabel(i api.Instr) cell {
	value, has := labels.Get(m.pod.Labels, m.program.Texts[i.A])
	return cell{text: value, known: has}
}

func (m *machine) podName(api.Instr) cell { return cell{text: m.pod.Name, known: true} }

func (m *machine) podKeys(api.Instr) cell { return cell{texts: m.keys} }

func (m *machine) one(api.Instr) cell {
	text := m.pop()
	if !text.known {
		return cell{}
	}
	return cell{texts: []string{text.text}}
}

func (m *machine) integer(api.Instr) cell {
	text := m.pop()
	n, is := labels.Int(text.text)
	return cell{num: n, known: text.known && is}
}

func (m *machine) not(api.Instr) cell {
	c := m.pop()
	return cell{u: c.u, set: bitset.Not(c.set, m.live[c.u])}
}

func (m *machine) save(i api.Instr) { m.locals[i.A] = m.pop() }

func (m *machine) load(i api.Instr) cell { return m.locals[i.A] }

func (m *machine) drop(api.Instr) { m.pop() }

func (m *machine) end(api.Instr) { m.answer = m.pop().set }
