package vm_test

import (
	"fmt"
	"slices"
	"strconv"
	"strings"

	"berth/api"
)

// bitmap says of each row of a world whether it is in it.
type bitmap struct {
	u  int
	in []bool
}

// A text and a number on the stack, perhaps undefined. Sets are []string and []int.
type (
	textCell struct {
		s     string
		known bool
	}
	numCell struct {
		n     int
		known bool
	}
)

// model runs a program over the rows of a world, by the words of the chapter, row by row.
type model struct {
	p      api.Program
	w      world
	pod    api.Pod
	stack  []any
	locals map[int]bitmap
	stat   api.Stat
}

func (m *model) push(cell any) {
	m.stack = append(m.stack, cell)
	m.stat.Depth = max(m.stat.Depth, len(m.stack))
}

// pop panics where there is no cell, or one of another kind.
func pop[T any](m *model) T {
	cell := m.stack[len(m.stack)-1].(T)
	m.stack = m.stack[:len(m.stack)-1]
	return cell
}

func valueOf(list []api.Label, key string) (string, bool) {
	for _, l := range list {
		if l.Key == key {
			return l.Value, true
		}
	}
	return "", false
}

// read is the number that a text writes which is there.
func read(value string, there bool) (int, bool) {
	n, err := strconv.Atoi(value)
	is := there && err == nil && strconv.Itoa(n) == value && len(strings.TrimPrefix(value, "-")) <= 15
	if !is {
		return 0, false
	}
	return n, true
}

func stands(x int, c api.Cmp, y int) bool {
	return []bool{false, x == y, x != y, x < y, x <= y, x > y, x >= y}[c]
}

func capOf(n api.Node, resource string) int {
	for _, item := range n.Cap {
		if item.Name == resource {
			return item.N
		}
	}
	return 0
}

func tolerates(list []api.Toleration, n api.Node, effect string) bool {
	for _, taint := range n.Taints {
		fits := func(o api.Toleration) bool {
			exists := o.Op == "Exists" && (o.Key == "" || o.Key == taint.Key)
			equals := o.Op == "Equal" && o.Key == taint.Key && o.Value == taint.Value
			return (exists || equals) && (o.Effect == "" || o.Effect == taint.Effect)
		}
		if taint.Effect == effect && !slices.ContainsFunc(list, fits) {
			return false
		}
	}
	return true
}

// rows is a bitmap of those rows of which is says true.
func (m *model) rows(u int, is func(i int, name string, labels []api.Label) bool) bitmap {
	out := bitmap{u: u}
	if u == 0 {
		for i, n := range m.w.nodes {
			out.in = append(out.in, is(i, n.Name, n.Labels))
		}
		return out
	}
	for i, pod := range m.w.pods {
		out.in = append(out.in, is(i, pod.Name, pod.Labels))
	}
	return out
}

func (m *model) allIf(u int, is bool) bitmap {
	return m.rows(u, func(int, string, []api.Label) bool { return is })
}

func (m *model) nodes(is func(n api.Node) bool) bitmap {
	return m.rows(0, func(i int, _ string, _ []api.Label) bool { return is(m.w.nodes[i]) })
}

func (m *model) both(is func(x, y bool) bool) bitmap {
	y := pop[bitmap](m)
	x := pop[bitmap](m)
	if x.u != y.u {
		panic("bitmaps of unlike kinds")
	}
	return m.rows(x.u, func(i int, _ string, _ []api.Label) bool { return is(x.in[i], y.in[i]) })
}

// domain is the nodes that have a key and of whose bound pods, among these, the number is such.
func (m *model) domain(key string, pods bitmap, is func(n int) bool) bitmap {
	if pods.u != 1 {
		panic("a bitmap of nodes")
	}
	return m.nodes(func(n api.Node) bool {
		here, has := valueOf(n.Labels, key)
		count := 0
		for i, in := range pods.in {
			there, labelled := valueOf(m.w.nodes[m.w.homes[i]].Labels, key)
			if in && labelled && there == here {
				count++
			}
		}
		return has && is(count)
	})
}

// run answers the slots of the nodes with which the program ends, rising, and what it took.
func (m *model) run() ([]int, api.Stat) {
	m.locals = map[int]bitmap{}
	for at := 0; ; {
		i := m.p.Code[at]
		m.stat.Steps++
		at++
		switch i.Op {
		case api.OpEnd:
			end := pop[bitmap](m)
			if end.u != 0 || len(m.stack) > 0 {
				panic("a wrong end")
			}
			var slots []int
			for k, in := range end.in {
				if in {
					slots = append(slots, m.w.slots[k])
				}
			}
			slices.Sort(slots)
			return slots, m.stat
		case api.OpJumpNone, api.OpJumpAll:
			top := m.stack[len(m.stack)-1].(bitmap)
			if !slices.Contains(top.in, i.Op == api.OpJumpNone) {
				at = i.A
			}
		default:
			m.do(i)
		}
	}
}

// do is an instruction that asks nothing of rows.
func (m *model) do(i api.Instr) {
	switch i.Op {
	case api.OpNone, api.OpAll:
		m.push(m.allIf(i.A, i.Op == api.OpAll))
	case api.OpText:
		m.push(textCell{m.p.Texts[i.A], true})
	case api.OpTexts:
		m.push(m.p.Sets[i.A])
	case api.OpNum:
		m.push(numCell{m.p.Nums[i.A], true})
	case api.OpNums:
		m.push(m.p.NumSets[i.A])
	case api.OpPodLabel:
		s, has := valueOf(m.pod.Labels, m.p.Texts[i.A])
		m.push(textCell{s, has})
	case api.OpPodName:
		m.push(textCell{m.pod.Name, true})
	case api.OpPodKeys:
		keys := []string{}
		for _, l := range m.pod.Labels {
			keys = append(keys, l.Key)
		}
		m.push(keys)
	case api.OpOne:
		set := []string{}
		if text := pop[textCell](m); text.known {
			set = append(set, text.s)
		}
		m.push(set)
	case api.OpInt:
		text := pop[textCell](m)
		n, is := read(text.s, text.known)
		m.push(numCell{n, is})
	case api.OpAnd:
		m.push(m.both(func(x, y bool) bool { return x && y }))
	case api.OpOr:
		m.push(m.both(func(x, y bool) bool { return x || y }))
	case api.OpAndNot:
		m.push(m.both(func(x, y bool) bool { return x && !y }))
	case api.OpNot:
		top := pop[bitmap](m)
		m.push(m.rows(top.u, func(i int, _ string, _ []api.Label) bool { return !top.in[i] }))
	case api.OpSave:
		m.locals[i.A] = pop[bitmap](m)
	case api.OpLoad:
		held, is := m.locals[i.A]
		if !is {
			panic("a local that holds nothing")
		}
		m.push(held)
	case api.OpPop:
		pop[any](m)
	default:
		m.ask(i)
	}
}

// ask is an instruction that asks of rows by themselves.
func (m *model) ask(i api.Instr) {
	key, rel := "", api.Cmp(i.C)
	if i.B < len(m.p.Texts) {
		key = m.p.Texts[i.B]
	}
	switch i.Op {
	case api.OpLabel:
		set := pop[[]string](m)
		m.push(m.rows(i.A, func(_ int, _ string, labels []api.Label) bool {
			v, has := valueOf(labels, key)
			return has && slices.Contains(set, v)
		}))
	case api.OpName:
		set := pop[[]string](m)
		m.push(m.rows(i.A, func(_ int, name string, _ []api.Label) bool { return slices.Contains(set, name) }))
	case api.OpHas:
		set := pop[[]string](m)
		m.push(m.rows(i.A, func(_ int, _ string, labels []api.Label) bool {
			return slices.ContainsFunc(labels, func(l api.Label) bool { return slices.Contains(set, l.Key) })
		}))
	case api.OpTaint:
		set := pop[[]string](m)
		m.push(m.nodes(func(n api.Node) bool {
			return slices.ContainsFunc(n.Taints, func(taint api.Taint) bool { return slices.Contains(set, taint.Key) })
		}))
	case api.OpNumber:
		held := pop[numCell](m)
		m.push(m.rows(i.A, func(_ int, _ string, labels []api.Label) bool {
			n, is := read(valueOf(labels, key))
			return is && held.known && stands(n, rel, held.n)
		}))
	case api.OpNumberIn:
		set := pop[[]int](m)
		m.push(m.rows(i.A, func(_ int, _ string, labels []api.Label) bool {
			n, is := read(valueOf(labels, key))
			return is && slices.Contains(set, n)
		}))
	case api.OpCap:
		held := pop[numCell](m)
		m.push(m.nodes(func(n api.Node) bool { return held.known && stands(capOf(n, key), rel, held.n) }))
	case api.OpCapIn:
		set := pop[[]int](m)
		m.push(m.nodes(func(n api.Node) bool { return slices.Contains(set, capOf(n, key)) }))
	case api.OpTolerated:
		m.push(m.nodes(func(n api.Node) bool { return tolerates(m.pod.Tolerations, n, key) }))
	default:
		m.askTogether(i, key, rel)
	}
}

// askTogether is an instruction that asks of domains, or whose answer is all or none.
func (m *model) askTogether(i api.Instr, key string, rel api.Cmp) {
	switch i.Op {
	case api.OpNear:
		m.push(m.domain(key, pop[bitmap](m), func(n int) bool { return n > 0 }))
	case api.OpCount:
		held := pop[numCell](m)
		m.push(m.domain(key, pop[bitmap](m), func(n int) bool { return held.known && stands(n, rel, held.n) }))
	case api.OpCountIn:
		set := pop[[]int](m)
		m.push(m.domain(key, pop[bitmap](m), func(n int) bool { return slices.Contains(set, n) }))
	case api.OpMember:
		set := pop[[]string](m)
		text := pop[textCell](m)
		m.push(m.allIf(i.A, text.known && slices.Contains(set, text.s)))
	case api.OpCompare:
		y := pop[numCell](m)
		x := pop[numCell](m)
		m.push(m.allIf(i.A, x.known && y.known && stands(x.n, rel, y.n)))
	case api.OpAmong:
		set := pop[[]int](m)
		x := pop[numCell](m)
		m.push(m.allIf(i.A, x.known && slices.Contains(set, x.n)))
	default:
		panic(fmt.Sprint("no instruction: ", i.Op))
	}
}
