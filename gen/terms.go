package gen

import "berth/api"

func isText(t api.Term) bool {
	return t.Kind == api.TermText || t.Kind == api.TermLabel || t.Kind == api.TermName
}

// moves: whether the term is worth another thing from node to node, or from bound pod to bound pod, by its labels or its name.
func moves(t api.Term) bool {
	sided := t.Kind == api.TermLabel || t.Kind == api.TermName || t.Kind == api.TermNumber
	return sided && t.Side != api.OfPod
}

// worth writes what a term of the pod is worth.
func (w *writing) worth(t api.Term) {
	switch t.Kind {
	case api.TermText:
		w.texts.name(t.Key, w.putA(api.Instr{Op: api.OpText}))
	case api.TermLabel:
		w.texts.name(t.Key, w.putA(api.Instr{Op: api.OpPodLabel}))
	case api.TermName:
		w.put(api.Instr{Op: api.OpPodName})
	case api.TermNumber:
		w.texts.name(t.Key, w.putA(api.Instr{Op: api.OpPodLabel}))
		w.put(api.Instr{Op: api.OpInt})
	}
}

// one writes the set of what a text term of the pod is worth.
func (w *writing) one(t api.Term) {
	w.worth(t)
	w.put(api.Instr{Op: api.OpOne})
}

// text asks whether a text term is worth one of the texts that set writes.
func (w *writing) text(t api.Term, u int, set func()) {
	if !moves(t) {
		w.worth(t)
		set()
		w.put(api.Instr{Op: api.OpMember, A: u})
		return
	}
	set()
	if t.Kind == api.TermName {
		w.put(api.Instr{Op: api.OpName, A: u})
		return
	}
	w.keyed(api.Instr{Op: api.OpLabel, A: u}, t.Key)
}

// asking are the instructions that hold a number term against what is on the stack, by what term it is.
type asking struct{ moving, ofPod, capacity, count api.Op }

func oneNumber() asking {
	return asking{api.OpNumber, api.OpCompare, api.OpCap, api.OpCount}
}

func manyNumbers() asking {
	return asking{api.OpNumberIn, api.OpAmong, api.OpCapIn, api.OpCountIn}
}

// number asks how a number term stands to what against writes.
func (w *writing) number(t api.Term, u int, against func(), by asking, rel api.Cmp) {
	switch {
	case moves(t):
		against()
		w.keyed(api.Instr{Op: by.moving, A: u, C: int(rel)}, t.Key)
	case t.Kind == api.TermNumber:
		w.worth(t)
		against()
		w.put(api.Instr{Op: by.ofPod, A: u, C: int(rel)})
	case t.Kind == api.TermCap:
		against()
		w.keyed(api.Instr{Op: by.capacity, C: int(rel)}, t.Key)
	case t.Kind == api.TermCount:
		w.part(t.Sel)
		against()
		w.keyed(api.Instr{Op: by.count, C: int(rel)}, t.Key)
	}
}
