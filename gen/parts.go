package gen

import "berth/api"

// part writes the code of the part at this place.
func (w *writing) part(place int) {
	if local, saved := w.locals[place]; saved {
		w.put(api.Instr{Op: api.OpLoad, A: local})
		return
	}
	w.own(place)
}

// own writes the part's own code, be it saved or not.
func (w *writing) own(place int) {
	part := w.parts[place]
	switch part.Kind {
	case api.DTrue:
		w.put(api.Instr{Op: api.OpAll, A: universe(part)})
	case api.DFalse:
		w.put(api.Instr{Op: api.OpNone, A: universe(part)})
	case api.DNot:
		w.part(part.Kids[0])
		w.put(api.Instr{Op: api.OpNot})
	case api.DAnd:
		w.joint(part.Kids, api.OpJumpNone, w.andKid)
	case api.DOr:
		w.joint(part.Kids, api.OpJumpAll, w.orKid)
	case api.DLit:
		w.literal(part.Lit, universe(part))
	}
}

// universe is the operand u of the instructions of a part.
func universe(part api.DagPart) int {
	if part.Pods {
		return 1
	}
	return 0
}

// joint writes the kids so that the run leaves the part as soon as no further kid can change what it is worth. Where the part ends is known only behind the last of them.
func (w *writing) joint(kids []int, jump api.Op, further func(kid int)) {
	w.part(kids[0])
	var jumps []func(end int)
	for _, kid := range kids[1:] {
		jumps = append(jumps, w.putA(api.Instr{Op: jump}))
		further(kid)
	}
	for _, lead := range jumps {
		lead(len(w.code))
	}
}

func (w *writing) andKid(kid int) {
	if _, saved := w.locals[kid]; w.parts[kid].Kind == api.DNot && !saved {
		w.part(w.parts[kid].Kids[0])
		w.put(api.Instr{Op: api.OpAndNot})
		return
	}
	w.part(kid)
	w.put(api.Instr{Op: api.OpAnd})
}

func (w *writing) orKid(kid int) {
	w.part(kid)
	w.put(api.Instr{Op: api.OpOr})
}
