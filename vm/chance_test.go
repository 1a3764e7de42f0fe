package vm_test

import (
	"fmt"
	"math/rand/v2"
	"slices"
	"strings"
	"testing"

	"berth/api"
	"berth/audit"
	"berth/cluster"
	"berth/index"
)

// chance makes programs, pods, clusters and sources of a seed.
type chance struct{ *rand.Rand }

func newChance(seed uint64) chance { return chance{rand.New(rand.NewPCG(seed, 22))} }

func one[T any](r chance, list ...T) T { return list[r.IntN(len(list))] }

// some are a few of a list, in any order; now and then none.
func some[T any](r chance, list []T) []T {
	out := []T{}
	for _, i := range r.Perm(len(list))[:r.IntN(min(len(list), 5)+1)] {
		out = append(out, list[i])
	}
	return out
}

// half is about every other one of a list.
func half[T any](r chance, list []T) []T {
	return slices.DeleteFunc(slices.Clone(list), func(T) bool { return r.IntN(2) == 0 })
}

// Few words, so that what is asked for is often there.
var (
	someKeys   = []string{"zone", "rack", "app", "n", "k/A"}
	someValues = []string{"x", "y", "", "1", "2", "3", "02", "-1", "web"}
	someNames  = []string{"a0", "b0", "c0", "d0", "p0", "p1"}
	effects    = []string{api.NoSchedule, api.NoExecute, api.PreferNoSchedule}
	someTexts  = slices.Concat(someKeys, someValues, someNames, effects, []string{"t", "cpu", "mem", "\xff"})
	someNums   = []int{-1, 0, 1, 2, 3, 4, 1 << 62, -1 << 63}
)

// labels are such as a cluster takes, in no order.
func (r chance) labels() []api.Label {
	var out []api.Label
	for _, i := range r.Perm(len(someKeys))[:r.IntN(len(someKeys)+1)] {
		out = append(out, api.Label{Key: someKeys[i], Value: one(r, someValues...)})
	}
	return out
}

func (r chance) tolerations() []api.Toleration {
	return some(r, []api.Toleration{
		{Op: api.Exists, Effect: api.NoExecute}, {Key: "t", Op: api.Exists}, {Key: "t", Op: api.Equal, Value: "x"},
		{Key: "zone", Op: api.Equal, Effect: api.NoSchedule}, {Key: "t", Op: api.Equal, Value: "y", Effect: api.PreferNoSchedule},
	})
}

// rawPod is a pod as it may be handed in: its lists raw, its texts of any kind.
func (r chance) rawPod() api.Pod {
	p := api.Pod{Name: one(r, append(someNames, "", "No!")...), Labels: r.labels(), Tolerations: r.tolerations()}
	for range r.IntN(4) {
		at := r.IntN(len(p.Labels) + 1)
		p.Labels = slices.Insert(p.Labels, at, api.Label{Key: one(r, append(someKeys, "", "a b")...), Value: one(r, append(someValues, "\xff", "- -")...)})
	}
	if r.IntN(3) == 0 {
		p.Tolerations = append(p.Tolerations, api.Toleration{Key: "t", Op: one(r, "", "exists", "Equal"), Value: one(r, "", "x"), Effect: one(r, "", "Never")})
	}
	return p
}

func (r chance) taints() []api.Taint {
	return some(r, []api.Taint{{Key: "t", Value: one(r, "x", "y", ""), Effect: api.NoSchedule}, {Key: "t", Effect: api.NoExecute}, {Key: "zone", Value: "x", Effect: api.PreferNoSchedule}, {Key: "zone", Effect: api.NoSchedule}})
}

func (r chance) items() []api.Item {
	return some(r, []api.Item{{Name: "cpu", N: r.IntN(4)}, {Name: "mem", N: r.IntN(3)}})
}

// course is a cluster and an index that is told of each of its changes.
type course struct {
	chance
	c *cluster.Cluster
	x *index.Index
}

func (r chance) newCourse() course { return course{r, cluster.New(), index.New()} }

func (c course) hear(t *testing.T, change api.Change, err error) {
	t.Helper()
	if err != nil {
		return // refused
	}
	if e := c.x.Apply(change); e != api.OK {
		t.Fatalf("%+v: %d", change, e)
	}
}

func (c course) add(t *testing.T, name string) {
	t.Helper()
	change, err := c.c.Add(api.Node{Name: name, Labels: c.labels(), Taints: c.taints(), Cap: c.items(), Cordoned: c.IntN(4) == 0})
	c.hear(t, change, err)
}

func (c course) bind(t *testing.T, name, node string) {
	t.Helper()
	change, err := c.c.Bind(api.Pod{Name: name, Labels: c.labels(), Tolerations: c.tolerations()}, node)
	c.hear(t, change, err)
}

// node and pod are names of nodes and of bound pods that may be there.
func (c course) node() string { return fmt.Sprintf("%c0", 'a'+rune(c.IntN(10))) }

func (c course) pod() string { return fmt.Sprint("p", c.IntN(12)) }

// step is one call that may change the cluster.
func (c course) step(t *testing.T) {
	t.Helper()
	var change api.Change
	var err error
	switch c.IntN(12) {
	case 0, 1, 2:
		c.add(t, c.node())
		return
	case 3, 4, 5, 6:
		c.bind(t, c.pod(), c.node())
		return
	case 7:
		change, err = c.c.Remove(c.node())
	case 8:
		change, err = c.c.Unbind(c.pod())
	case 9:
		change, err = c.c.Label(c.node(), one(c.chance, someKeys...), one(c.chance, someValues...))
	case 10:
		change, err = c.c.Unlabel(c.node(), one(c.chance, someKeys...))
	default:
		change, err = c.c.Resize(c.node(), c.items())
	}
	c.hear(t, change, err)
}

// drain takes a node out with its pods.
func (c course) drain(t *testing.T, name string) {
	t.Helper()
	for _, pod := range c.c.On(name) {
		change, err := c.c.Unbind(pod)
		c.hear(t, change, err)
	}
	change, err := c.c.Remove(name)
	c.hear(t, change, err)
}

// cluster has gone a course of so many steps.
func (r chance) cluster(t *testing.T, steps int) course {
	t.Helper()
	c := r.newCourse()
	for range steps {
		c.step(t)
		if r.IntN(12) == 0 {
			c.drain(t, c.node())
		}
	}
	return c
}

// bench is the index that was kept, with its rows.
func (c course) bench() bench { return bench{worldOf(c.c), c.x} }

// state is what a way leaves ahead of a place: a letter for each cell of the stack, and one for each local: N, P, or a point where it isn't set.
type state struct{ stack, locals string }

// writer writes code that is accepted: it knows the stack, and what the locals hold, behind what is written.
type writer struct {
	chance
	p     api.Program
	now   state
	jumps []open
}

// open is a jump that has no target yet, with what it leaves there.
type open struct {
	place int
	state
}

func isJump(i api.Instr) bool { return i.Op == api.OpJumpNone || i.Op == api.OpJumpAll }

// instr is an instruction with operands that are there; a place in an empty pool, and a local where there is none, is 0.
func (w *writer) instr(o api.Op) api.Instr {
	i := op(o)
	fit := map[api.Op][]string{api.OpCap: {"cpu", "mem"}, api.OpCapIn: {"cpu", "mem"}, api.OpTolerated: effects}[o]
	if fit == nil {
		fit = someKeys
	}
	for k, operand := range operandsOf(&i) {
		size := map[byte]int{'u': 2, 't': len(w.p.Texts), 'n': len(w.p.Nums), 's': len(w.p.Sets), 'm': len(w.p.NumSets), 'l': w.p.Locals, 'c': 6}[lines[o].operands[k]]
		*operand = w.IntN(max(size, 1))
		switch lines[o].operands[k] {
		case 'c':
			*operand++
		case 't':
			for range 5 { // a text that makes sense there, most times
				if len(w.p.Texts) > 0 && !slices.Contains(fit, w.p.Texts[*operand]) {
					*operand = w.IntN(size)
				}
			}
		}
	}
	if set := strings.IndexAny(w.now.locals, "NP"); o == api.OpLoad && set >= 0 {
		i.A = one(w.chance, i.A, set, max(set, strings.LastIndexAny(w.now.locals, "NP")))
	}
	return i
}

// behind is what an instruction leaves of what is ahead of it.
func behind(i api.Instr, s state) state {
	l := lines[i.Op]
	under, taken := s.stack[:len(s.stack)-len(l.takes)], s.stack[len(s.stack)-len(l.takes):]
	if i.Op == api.OpSave {
		s.locals = s.locals[:i.A] + taken + s.locals[i.A+1:]
	}
	switch l.puts {
	case "b":
		under += string("NP"[i.A])
	case "x":
		under += taken[:1]
	case "l":
		under += s.locals[i.A : i.A+1]
	default:
		under += l.puts
	}
	return state{under, s.locals}
}

// suits: whether the cells are of the kinds that an Op takes.
func suits(cells, kinds string) bool {
	switch kinds {
	case "?":
		return true
	case "x", "xx":
		return cells == strings.Repeat("N", len(kinds)) || cells == strings.Repeat("P", len(kinds))
	}
	return cells == kinds
}

// named: whether what an instruction names, but for a target, is there.
func (w *writer) named(i api.Instr) bool {
	for k, operand := range operandsOf(&i) {
		size, pooled := map[byte]int{'t': len(w.p.Texts), 'n': len(w.p.Nums), 's': len(w.p.Sets), 'm': len(w.p.NumSets), 'l': w.p.Locals}[lines[i.Op].operands[k]]
		if pooled && *operand >= size {
			return false
		}
	}
	return true
}

// may: whether an instruction has no fault behind what is written; its target isn't asked.
func (w *writer) may(i api.Instr) bool {
	l, stack := lines[i.Op], w.now.stack
	return i.Op != api.OpEnd && w.named(i) && len(stack) >= len(l.takes) && suits(stack[len(stack)-len(l.takes):], l.takes) &&
		(i.Op != api.OpLoad || w.now.locals[i.A] != '.') && len(stack)-len(l.takes)+len(l.puts) <= w.p.Depth
}

func (w *writer) put(i api.Instr) {
	w.now = behind(i, w.now)
	w.p.Code = append(w.p.Code, i)
	if isJump(i) {
		w.jumps = append(w.jumps, open{len(w.p.Code) - 1, w.now})
	}
	if w.IntN(2) == 0 {
		w.land()
	}
}

// land lets some of the open jumps that have left the same stack come down here; what the locals held there may be another thing.
func (w *writer) land() {
	kept := w.jumps[:0:0]
	for _, jump := range w.jumps {
		if here := len(w.p.Code); jump.stack != w.now.stack || here == jump.place || w.IntN(3) == 0 {
			kept = append(kept, jump)
			continue
		}
		w.p.Code[jump.place].A = len(w.p.Code)
		locals := []byte(w.now.locals)
		for i := range locals {
			if locals[i] != jump.locals[i] {
				locals[i] = '.'
			}
		}
		w.now.locals = string(locals)
	}
	w.jumps = kept
}

// feed writes what an Op takes, and the Op.
func (w *writer) feed(o api.Op, deep int) {
	i, bit := w.instr(o), one(w.chance, 'N', 'P')
	if !w.named(i) || o == api.OpEnd || o == api.OpLoad && !w.may(i) {
		return
	}
	for _, kind := range lines[o].takes {
		if kind == 'x' || kind == '?' {
			kind = bit
		}
		w.give(kind, deep)
	}
	w.put(i)
}

// give writes code that leaves a cell of a kind.
func (w *writer) give(kind rune, deep int) {
	texts := []api.Op{api.OpPodName, api.OpPodLabel, api.OpText, api.OpPodLabel}
	bits := []api.Op{api.OpAll, api.OpNone, api.OpLabel, api.OpName, api.OpHas, api.OpNumber, api.OpNumberIn, api.OpMember, api.OpCompare, api.OpAmong}
	ops := map[rune][]api.Op{'t': texts, 'T': {api.OpPodKeys, api.OpOne, api.OpTexts, api.OpTexts, api.OpTexts}, 'n': {api.OpInt, api.OpNum}, 'M': {api.OpNums}, 'N': bits, 'P': bits}[kind]
	if kind == 'N' {
		ops = append(ops, api.OpTaint, api.OpCap, api.OpCapIn, api.OpCount, api.OpCountIn, api.OpNear, api.OpTolerated)
	}
	if joints := []api.Op{api.OpAnd, api.OpOr, api.OpAndNot, api.OpNot, api.OpLoad}; deep > 0 && (kind == 'N' || kind == 'P') && w.IntN(2) == 0 {
		ops = joints
	}
	i := w.instr(one(w.chance, ops...))
	if lines[i.Op].operands[0] == 'u' {
		i.A = strings.IndexRune("NP", kind)
	}
	if !w.named(i) || i.Op == api.OpLoad && (w.now.locals == "" || w.now.locals[i.A] != byte(kind)) {
		i = map[rune]api.Instr{'t': op(api.OpPodName), 'T': op(api.OpPodKeys), 'n': op(api.OpInt), 'M': op(api.OpNums), 'N': op(api.OpAll), 'P': op(api.OpAll, 1)}[kind]
	}
	for at, cell := range lines[i.Op].takes {
		if cell == 'x' {
			cell = kind
		}
		w.give(cell, deep-1)
		if jump := op(one(w.chance, api.OpJumpNone, api.OpJumpAll)); at == 0 && cell == kind && w.IntN(2) == 0 {
			w.put(jump)
		}
	}
	w.put(i)
}

// clear takes all from the stack but one node bitmap, which is there behind it.
func (w *writer) clear() {
	for w.now.stack != "N" {
		i := op(api.OpPop)
		if w.now.stack == "" {
			i = op(api.OpAll)
		}
		for _, o := range []api.Op{api.OpAnd, api.OpOr, api.OpAndNot, api.OpNear} {
			if other := w.instr(o); w.may(other) && w.IntN(2) == 0 {
				i = other
			}
		}
		w.put(i)
	}
}

// pools are a program's constants: in no order, with one thing twice; now and then few or none.
func (r chance) pools() api.Program {
	p := api.Program{Depth: api.MaxDeep, Locals: one(r, 0, 1, 2, 4, 40), NumSets: [][]int{{0, 2}}}
	if r.IntN(6) == 0 {
		p.Texts = some(r, someTexts)
		return p
	}
	for range 6 {
		p.Texts = append(p.Texts, one(r, someKeys...), one(r, someTexts...), one(r, "cpu", "mem", one(r, effects...)))
		p.Nums = append(p.Nums, one(r, r.IntN(4), one(r, someNums...)))
		p.Sets = append(p.Sets, one(r, half(r, someTexts), some(r, one(r, someValues, someNames, someKeys))))
		p.NumSets = append(p.NumSets, one(r, half(r, someNums), some(r, someNums)))
	}
	return p
}

// program makes a program of about so many instructions, or more, that is accepted.
func (r chance) program(size int) api.Program {
	w := &writer{chance: r, p: r.pools()}
	w.now.locals = strings.Repeat(".", w.p.Locals)
	for len(w.p.Code) < size {
		if i := w.instr(api.Op(1 + r.IntN(36))); r.IntN(4) == 0 {
			w.feed(i.Op, r.IntN(3))
		} else if w.may(i) {
			w.put(i)
		}
		if len(w.now.stack) > 50 {
			w.clear()
		}
	}
	w.clear()
	for range r.IntN(5) {
		w.give('N', r.IntN(4))
		w.put(op(one(r, api.OpAnd, api.OpOr, api.OpAndNot)))
	}
	for _, jump := range w.jumps {
		if w.p.Code[jump.place] = op(api.OpNot); jump.stack == "N" {
			w.p.Code[jump.place] = op(one(r, api.OpJumpAll, api.OpJumpNone), len(w.p.Code))
		}
	}
	w.p.Code = append(w.p.Code, op(api.OpEnd))
	shape, _ := audit.Program(w.p)
	w.p.Depth = one(r, shape.Depth, shape.Depth, shape.Depth+1, w.p.Depth)
	return w.p
}

// reveal cuts a program off ahead of a place and ends it with the highest bitmap on the stack there; jumps over the place come down at it, so that it may be refused.
func reveal(p api.Program, place int) api.Program {
	stacks, _ := audit.Stacks(p)
	top := stacks[place]
	p.Code = slices.Clone(p.Code[:place])
	for at, i := range p.Code {
		if isJump(i) {
			p.Code[at].A = min(i.A, place)
		}
	}
	for len(top) > 0 && top[len(top)-1] > api.CellPods {
		p.Code, top = append(p.Code, op(api.OpPop)), top[:len(top)-1]
	}
	if len(top) == 0 {
		p.Code = append(p.Code, op(api.OpAll), op(api.OpEnd))
		return p
	}
	if top[len(top)-1] == api.CellPods {
		p.Texts = append(slices.Clone(p.Texts), "rack")
		p.Code = append(p.Code, op(api.OpNear, 0, len(p.Texts)-1))
	}
	p.Code = append(p.Code, op(api.OpSave, p.Locals))
	p.Code = append(p.Code, slices.Repeat([]api.Instr{op(api.OpPop)}, len(top)-1)...)
	p.Code = append(p.Code, op(api.OpLoad, p.Locals), op(api.OpEnd))
	p.Depth, p.Locals = api.MaxDeep, p.Locals+1
	return p
}

// any makes an instruction of no order.
func (r chance) any() api.Instr {
	number := func() int { return one(r, 0, 0, 0, 1, 2, 3, -1, r.IntN(10), int(r.Uint64())) }
	return op(one(r, api.Op(r.IntN(38)), api.Op(r.IntN(38)), api.Op(r.IntN(38)), api.Op(int(r.Uint64()))), number(), number(), number())
}

// disturb changes one thing of a program: it may be refused.
func (r chance) disturb(p api.Program) api.Program {
	p.Code = slices.Clone(p.Code)
	at, other := r.IntN(len(p.Code)), r.IntN(len(p.Code))
	w := &writer{chance: r, p: p}
	switch r.IntN(9) {
	case 0, 1:
		*one(r, operandsOf(&p.Code[at])...) = one(r, 0, 1, -1, 2, 6, 7, r.IntN(len(p.Code)+1))
	case 2:
		p.Code[at].Op = one(r, 0, 37, -1, api.Op(1+r.IntN(36)))
	case 3:
		p.Code[at] = w.instr(api.Op(1 + r.IntN(36)))
	case 4:
		p.Code[at], p.Code[other] = p.Code[other], p.Code[at]
	case 5:
		p.Depth += one(r, -1, -1, 1, -2, -9, 200)
	case 6:
		p.Locals += one(r, -1, -2, 1, -9, 2000)
	case 7:
		p.Texts, p.Nums = p.Texts[:r.IntN(len(p.Texts)+1)], p.Nums[:r.IntN(len(p.Nums)+1)]
	default:
		for place, i := range p.Code {
			if isJump(i) && r.IntN(3) == 0 {
				p.Code[place].A += one(r, -1, 1, 2)
			}
		}
	}
	return p
}
