package gen

import "berth/api"

// writing is a program while it is written.
type writing struct {
	parts   []api.DagPart
	locals  map[int]int // by the place of a part that is saved, its local
	code    []api.Instr
	texts   pool[string]
	nums    pool[int]
	sets    pool[[]string]
	numSets pool[[]int]
}

func newWriting(parts []api.DagPart, saved []int) *writing {
	w := &writing{
		parts:   parts,
		locals:  map[int]int{},
		texts:   newPool[string](),
		nums:    newPool[int](),
		sets:    newPoolOfSets[string](),
		numSets: newPoolOfSets[int](),
	}
	for local, place := range saved {
		w.locals[place] = local
	}
	return w
}

// written is the program of a valid dag, whether or not it keeps to the limits. Each part but the constants is written once, however often it is used: so there is little of it, whatever the dag unfolds to.
func written(d api.Dag) api.Program {
	saved := savedParts(d)
	w := newWriting(d.Parts, saved)
	for local, place := range saved {
		w.own(place)
		w.put(api.Instr{Op: api.OpSave, A: local})
	}
	w.part(d.Root)
	w.put(api.Instr{Op: api.OpEnd})
	return api.Program{
		Texts:   w.texts.settled(),
		Nums:    w.nums.settled(),
		Sets:    ownSets(w.sets.settled()),
		NumSets: ownSets(w.numSets.settled()),
		Code:    w.code,
		Depth:   depthOf(w.code),
		Locals:  len(saved),
	}
}

func (w *writing) put(i api.Instr) { w.code = append(w.code, i) }

// putA writes an instruction whose operand A isn't known yet; what it answers puts it in.
func (w *writing) putA(i api.Instr) func(place int) {
	at := len(w.code)
	w.put(i)
	return func(place int) { w.code[at].A = place }
}

// putB is putA for the operand B.
func (w *writing) putB(i api.Instr) func(place int) {
	at := len(w.code)
	w.put(i)
	return func(place int) { w.code[at].B = place }
}

// keyed writes an instruction whose operand B names a text.
func (w *writing) keyed(i api.Instr, key string) { w.texts.name(key, w.putB(i)) }
