package audit

import "berth/api"

// walk stands at one place of a program and knows what all ways to it leave there: jumps go forward alone, so that all of them have been seen when the place is reached.
type walk struct {
	program api.Program
	place   int
	instr   api.Instr
	row     row
	stack   []api.Cell // ahead of the place
	locals  held       // ahead of the place
	unlike  bool       // whether a jump to the place leaves another stack than going on does
	meets   meetings
}

// follow goes through a program from place to place, hands on the stack ahead of each, and tells the first fault.
func follow(p api.Program, tell func(stack []api.Cell)) *api.Fault {
	if !declared(p) {
		return &api.Fault{Code: api.ErrDeclared, At: -1}
	}
	if len(p.Code) == 0 {
		return &api.Fault{Code: api.ErrStop}
	}
	w := &walk{program: p, locals: newHeld(p.Locals), meets: newMeetings(p)}
	rules := w.rules()
	var found *api.Fault
places:
	for place := range p.Code {
		w.reach(place)
		for _, rule := range rules {
			if rule.broken() {
				found = &api.Fault{Code: rule.code, At: place}
				break places
			}
		}
		tell(w.stack)
		w.goOn()
	}
	return found
}

// reach takes together what going on and the jumps leave ahead of a place.
func (w *walk) reach(place int) {
	w.place, w.instr = place, w.program.Code[place]
	w.row = rowOf(w.instr.Op)
	w.unlike = w.meets.join(place, w.stack, w.locals)
}

// goOn makes of the stack and the locals ahead of the place those behind its instruction.
func (w *walk) goOn() {
	put := w.put()
	if w.instr.Op == api.OpSave {
		w.locals.set(w.instr.A, w.taken()[0])
	}
	w.stack = w.stack[:len(w.stack)-w.row.size()]
	if put != nothing {
		w.stack = append(w.stack, put)
	}
	if w.row.jumps() {
		w.meets.arrive(w.instr.A, w.stack, w.locals)
	}
}

// taken are the cells that the instruction takes; there are as many on the stack.
func (w *walk) taken() []api.Cell { return w.stack[len(w.stack)-w.row.size():] }

// put is the kind of the cell that the instruction puts on the stack, or nothing.
func (w *walk) put() api.Cell {
	switch w.row.puts {
	case ofSide:
		return sideKind(w.instr.A)
	case bitmap:
		return w.taken()[0]
	case ofLocal:
		return w.locals.kind(w.instr.A)
	}
	return w.row.puts
}

func sideKind(u int) api.Cell {
	if u == 0 {
		return api.CellNodes
	}
	return api.CellPods
}
