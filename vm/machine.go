package vm

import (
	"berth/api"
	"berth/bitset"
	"berth/index"
)

// sides are what the operand u stands for.
var sides = [...]api.Side{api.OfNode, api.OfIt}

// machine runs one program, once, for one pod.
type machine struct {
	stack
	program api.Program
	index   *index.Index
	pod     api.Pod
	keys    []string       // the pod's
	live    [2]*bitset.Set // by u
	locals  []cell
	next    int         // the place of the next instruction
	answer  *bitset.Set // nil until OpEnd is done
}

func newMachine(p api.Program, x *index.Index, pod api.Pod) *machine {
	if x == nil {
		x = index.New() // of a nil index's bitmaps the universe isn't promised
	}
	m := &machine{program: p, index: x, pod: pod, locals: make([]cell, p.Locals)}
	for u, of := range sides {
		m.live[u] = x.Live(of)
	}
	for _, label := range pod.Labels {
		m.keys = append(m.keys, label.Key)
	}
	return m
}

// run goes on to OpEnd, and tells how many instructions were done.
func (m *machine) run() int {
	table, steps := acts(), 0
	for m.answer == nil {
		i := m.program.Code[m.next]
		m.next++
		steps++
		table[i.Op].do(m, i)
	}
	return steps
}

// none is the empty bitmap of u.
func (m *machine) none(u int) *bitset.Set { return bitset.AndNot(m.live[u], m.live[u]) }

// allIf is a bitmap of u: all that live, or none.
func (m *machine) allIf(u int, is bool) *bitset.Set {
	if is {
		return m.live[u]
	}
	return m.none(u)
}

// isNone: whether a bitmap is empty.
func (m *machine) isNone(c cell) bool { return c.set.Next(0) < 0 }

// isAll: whether a bitmap has all that live of its kind.
func (m *machine) isAll(c cell) bool { return bitset.Subset(m.live[c.u], c.set) }
