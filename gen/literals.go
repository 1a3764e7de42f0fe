package gen

import "berth/api"

// literal writes the code of a literal that stands in a part of the universe u.
func (w *writing) literal(l api.Lit, u int) {
	switch l.Kind {
	case api.LitIn:
		w.in(l, u)
	case api.LitRel:
		number := func() { w.nums.name(l.Num, w.putA(api.Instr{Op: api.OpNum})) }
		w.number(l.Term, u, number, oneNumber(), l.Rel)
	case api.LitPod:
		w.beside(l, u)
	case api.LitKeys:
		w.keys(l, u)
	case api.LitTaints:
		w.one(l.Term)
		w.put(api.Instr{Op: api.OpTaint})
	case api.LitTol:
		w.keyed(api.Instr{Op: api.OpTolerated}, l.Key)
	case api.LitNear:
		w.part(l.Sel)
		w.keyed(api.Instr{Op: api.OpNear}, l.Key)
	}
}

// in writes nothing of the term where there are no elements, not even its selector.
func (w *writing) in(l api.Lit, u int) {
	if len(l.Texts) == 0 && len(l.Nums) == 0 {
		w.put(api.Instr{Op: api.OpNone, A: u})
		return
	}
	if isText(l.Term) {
		w.text(l.Term, u, func() { w.sets.name(l.Texts, w.putA(api.Instr{Op: api.OpTexts})) })
		return
	}
	numbers := func() { w.numSets.name(l.Nums, w.putA(api.Instr{Op: api.OpNums})) }
	w.number(l.Term, u, numbers, manyNumbers(), 0)
}

func (w *writing) beside(l api.Lit, u int) {
	if isText(l.Term) {
		w.text(l.Term, u, func() { w.one(l.Other) })
		return
	}
	w.number(l.Term, u, func() { w.worth(l.Other) }, oneNumber(), l.Rel)
}

func (w *writing) keys(l api.Lit, u int) {
	if l.Of == api.OfPod {
		w.text(l.Term, u, func() { w.put(api.Instr{Op: api.OpPodKeys}) })
		return
	}
	w.one(l.Term)
	w.put(api.Instr{Op: api.OpHas, A: u})
}
