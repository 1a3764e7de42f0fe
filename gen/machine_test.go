package gen_test

import (
	"fmt"
	"slices"

	"berth/api"
)

// bitmap says of each row of a world whether it is in it.
type bitmap struct {
	pods bool
	in   []bool
}

// A text and a number on the stack, perhaps undefined. Sets are []string and []int.
type (
	textCell struct {
		s     string
		known bool
	}
	numCell struct {
		n     int
		known bool
	}
)

// machine runs a program over a world, by chapter 22's table.
type machine struct {
	p      api.Program
	w      world
	pod    api.Pod
	stack  []any
	locals map[int]bitmap
	steps  int
	depth  int
}

func (m *machine) push(cell any) {
	m.stack = append(m.stack, cell)
	m.depth = max(m.depth, len(m.stack))
}

func pop[T any](m *machine) T {
	cell := m.stack[len(m.stack)-1].(T)
	m.stack = m.stack[:len(m.stack)-1]
	return cell
}

// rows is a bitmap of those rows of which is says true.
func (m *machine) rows(u int, is func(i int, name string, labels []api.Label) bool) bitmap {
	out := bitmap{pods: u == 1}
	if u == 0 {
		for i, n := range m.w.nodes {
			out.in = append(out.in, is(i, n.Name, n.Labels))
		}
		return out
	}
	for i, pod := range m.w.pods {
		out.in = append(out.in, is(i, pod.Name, pod.Labels))
	}
	return out
}

func (m *machine) allIf(u int, is bool) bitmap {
	return m.rows(u, func(int, string, []api.Label) bool { return is })
}

func (m *machine) nodes(is func(n api.Node) bool) bitmap {
	return m.rows(0, func(i int, _ string, _ []api.Label) bool { return is(m.w.nodes[i]) })
}

func (m *machine) both(is func(x, y bool) bool) bitmap {
	y := pop[bitmap](m)
	x := pop[bitmap](m)
	if x.pods != y.pods {
		panic("bitmaps of unlike kinds")
	}
	out := bitmap{pods: x.pods}
	for i := range x.in {
		out.in = append(out.in, is(x.in[i], y.in[i]))
	}
	return out
}

func (m *machine) podsPopped() []bool {
	pods := pop[bitmap](m)
	if !pods.pods {
		panic("a bitmap of nodes")
	}
	return pods.in
}

// run answers at which nodes the program ends; a panic would tell of a cell that isn't there or is of another kind.
func (m *machine) run() []string {
	m.locals = map[int]bitmap{}
	for at := 0; ; {
		i := m.p.Code[at]
		m.steps++
		at++
		switch i.Op {
		case api.OpEnd:
			end := pop[bitmap](m)
			if end.pods || len(m.stack) > 0 {
				panic("a wrong end")
			}
			return m.w.namesOf(end.in)
		case api.OpJumpNone, api.OpJumpAll:
			top := m.stack[len(m.stack)-1].(bitmap)
			if !slices.Contains(top.in, i.Op == api.OpJumpNone) {
				at = i.A
			}
		default:
			m.do(i)
		}
	}
}

// do is an instruction that puts something, or OpSave.
func (m *machine) do(i api.Instr) {
	switch i.Op {
	case api.OpNone, api.OpAll:
		m.push(m.allIf(i.A, i.Op == api.OpAll))
	case api.OpText:
		m.push(textCell{m.p.Texts[i.A], true})
	case api.OpTexts:
		m.push(m.p.Sets[i.A])
	case api.OpNum:
		m.push(numCell{m.p.Nums[i.A], true})
	case api.OpNums:
		m.push(m.p.NumSets[i.A])
	case api.OpPodLabel:
		s, has := valueOf(m.pod.Labels, m.p.Texts[i.A])
		m.push(textCell{s, has})
	case api.OpPodName:
		m.push(textCell{m.pod.Name, true})
	case api.OpPodKeys:
		keys := []string{}
		for _, l := range m.pod.Labels {
			keys = append(keys, l.Key)
		}
		m.push(keys)
	case api.OpOne:
		set := []string{}
		if text := pop[textCell](m); text.known {
			set = append(set, text.s)
		}
		m.push(set)
	case api.OpInt:
		text := pop[textCell](m)
		n, is := read(text.s, text.known)
		m.push(numCell{n, is})
	case api.OpAnd:
		m.push(m.both(func(x, y bool) bool { return x && y }))
	case api.OpOr:
		m.push(m.both(func(x, y bool) bool { return x || y }))
	case api.OpAndNot:
		m.push(m.both(func(x, y bool) bool { return x && !y }))
	case api.OpNot:
		top := pop[bitmap](m)
		m.push(m.rows(map[bool]int{true: 1}[top.pods], func(i int, _ string, _ []api.Label) bool { return !top.in[i] }))
	case api.OpSave:
		m.locals[i.A] = pop[bitmap](m)
	case api.OpLoad:
		held, is := m.locals[i.A]
		if !is {
			panic("a local that holds nothing")
		}
		m.push(held)
	default:
		m.ask(i)
	}
}

// ask is an instruction that asks of rows.
func (m *machine) ask(i api.Instr) {
	key, rel := at(m.p.Texts, i.B), api.Cmp(i.C)
	switch i.Op {
	case api.OpLabel:
		set := pop[[]string](m)
		m.push(m.rows(i.A, func(_ int, _ string, labels []api.Label) bool {
			v, has := valueOf(labels, key)
			return has && slices.Contains(set, v)
		}))
	case api.OpName:
		set := pop[[]string](m)
		m.push(m.rows(i.A, func(_ int, name string, _ []api.Label) bool { return slices.Contains(set, name) }))
	case api.OpHas:
		set := pop[[]string](m)
		m.push(m.rows(i.A, func(_ int, _ string, labels []api.Label) bool {
			return slices.ContainsFunc(labels, func(l api.Label) bool { return slices.Contains(set, l.Key) })
		}))
	case api.OpTaint:
		set := pop[[]string](m)
		m.push(m.nodes(func(n api.Node) bool {
			return slices.ContainsFunc(n.Taints, func(taint api.Taint) bool { return slices.Contains(set, taint.Key) })
		}))
	case api.OpNumber:
		held := pop[numCell](m)
		m.push(m.rows(i.A, func(_ int, _ string, labels []api.Label) bool {
			n, is := read(valueOf(labels, key))
			return is && held.known && stands(n, rel, held.n)
		}))
	case api.OpNumberIn:
		set := pop[[]int](m)
		m.push(m.rows(i.A, func(_ int, _ string, labels []api.Label) bool {
			n, is := read(valueOf(labels, key))
			return is && slices.Contains(set, n)
		}))
	case api.OpCap:
		held := pop[numCell](m)
		m.push(m.nodes(func(n api.Node) bool { return held.known && stands(capOf(n, key), rel, held.n) }))
	case api.OpCapIn:
		set := pop[[]int](m)
		m.push(m.nodes(func(n api.Node) bool { return slices.Contains(set, capOf(n, key)) }))
	case api.OpTolerated:
		m.push(m.nodes(func(n api.Node) bool { return tolerates(m.pod, n, key) }))
	default:
		m.askPods(i, key, rel)
	}
}

// askPods is an instruction that asks of bound pods in domains, or of the pod to be placed.
func (m *machine) askPods(i api.Instr, key string, rel api.Cmp) {
	domain := func(pods []bool, is func(n int) bool) {
		m.push(m.nodes(func(n api.Node) bool {
			count, has := m.w.countOf(n, key, pods)
			return has && is(count)
		}))
	}
	switch i.Op {
	case api.OpNear:
		domain(m.podsPopped(), func(n int) bool { return n > 0 })
	case api.OpCount:
		held := pop[numCell](m)
		domain(m.podsPopped(), func(n int) bool { return held.known && stands(n, rel, held.n) })
	case api.OpCountIn:
		set := pop[[]int](m)
		domain(m.podsPopped(), func(n int) bool { return slices.Contains(set, n) })
	case api.OpMember:
		set := pop[[]string](m)
		text := pop[textCell](m)
		m.push(m.allIf(i.A, text.known && slices.Contains(set, text.s)))
	case api.OpCompare:
		y := pop[numCell](m)
		x := pop[numCell](m)
		m.push(m.allIf(i.A, x.known && y.known && stands(x.n, rel, y.n)))
	case api.OpAmong:
		set := pop[[]int](m)
		x := pop[numCell](m)
		m.push(m.allIf(i.A, x.known && slices.Contains(set, x.n)))
	default:
		panic(fmt.Sprint("no instruction: ", i.Op))
	}
}

// whereProgram: at which nodes a run of the program ends; it takes at most as many steps as there are instructions and stays within the Depth.
func whereProgram(w world, p api.Program, pod api.Pod) []string {
	m := &machine{p: p, w: w, pod: pod}
	names := m.run()
	if m.steps > len(p.Code) || m.depth > p.Depth {
		panic(fmt.Sprintf("%d steps, depth %d: %s", m.steps, m.depth, told(p)))
	}
	return names
}
