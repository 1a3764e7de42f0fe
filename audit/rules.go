package audit

import "berth/api"

// rule is a fault's code, and whether the place that is looked at has the fault.
type rule struct {
	code   api.Errno
	broken func() bool
}

// rules stand in the order in which they are asked: each relies on those ahead of it.
func (w *walk) rules() []rule {
	return []rule{
		{api.ErrInstr, w.noOp},
		{api.ErrOperand, w.wrongOperand},
		{api.ErrTarget, w.wrongTarget},
		{api.ErrStop, w.wrongEnd},
		{api.ErrJoin, w.unlikeStacks},
		{api.ErrUnder, w.tooFewCells},
		{api.ErrKind, w.otherKind},
		{api.ErrLocal, w.localNotSet},
		{api.ErrOver, w.tooManyCells},
		{api.ErrStop, w.cellsLeft},
	}
}

func within(n, least, most int) bool { return least <= n && n <= most }

// declared: whether what a program says of itself is within the limits.
func declared(p api.Program) bool {
	return len(p.Code) <= api.MaxCode && within(p.Depth, 0, api.MaxDeep) && within(p.Locals, 0, api.MaxLocals) &&
		len(p.Texts)+len(p.Nums)+len(p.Sets)+len(p.NumSets) <= api.MaxPool
}

func (w *walk) noOp() bool { return !isOp(w.instr.Op) }

func (w *walk) wrongOperand() bool {
	for k, operand := range [3]int{w.instr.A, w.instr.B, w.instr.C} {
		if !w.fits(w.row.uses[k], operand) {
			return true
		}
	}
	return false
}

// fits lets every target pass: a wrong one is a fault of its own.
func (w *walk) fits(named use, operand int) bool {
	switch named {
	case side:
		return within(operand, 0, 1)
	case inTexts:
		return within(operand, 0, len(w.program.Texts)-1)
	case inNums:
		return within(operand, 0, len(w.program.Nums)-1)
	case inSets:
		return within(operand, 0, len(w.program.Sets)-1)
	case inNumSets:
		return within(operand, 0, len(w.program.NumSets)-1)
	case relation:
		return within(operand, int(api.CmpEq), int(api.CmpGe))
	case local:
		return within(operand, 0, w.program.Locals-1)
	case target:
		return true
	}
	return operand == 0
}

func (w *walk) wrongTarget() bool {
	return w.row.jumps() && !within(w.instr.A, w.place+1, len(w.program.Code)-1)
}

func (w *walk) wrongEnd() bool {
	return (w.instr.Op == api.OpEnd) != (w.place == len(w.program.Code)-1)
}

func (w *walk) unlikeStacks() bool { return w.unlike }

func (w *walk) tooFewCells() bool { return len(w.stack) < w.row.size() }

func (w *walk) otherKind() bool {
	taken := w.taken()
	for k, kind := range taken {
		if !suits(kind, w.row.takes[k], taken[0]) {
			return true
		}
	}
	return false
}

// suits: whether a cell is of the kind that is asked; the bitmaps that an instruction takes are all of the first one's kind.
func suits(kind, asked, first api.Cell) bool {
	switch asked {
	case bitmap:
		return (kind == api.CellNodes || kind == api.CellPods) && kind == first
	case anything:
		return true
	}
	return kind == asked
}

func (w *walk) localNotSet() bool {
	return w.instr.Op == api.OpLoad && w.locals.kind(w.instr.A) == nothing
}

func (w *walk) tooManyCells() bool { return w.cellsBehind() > w.program.Depth }

func (w *walk) cellsLeft() bool { return w.instr.Op == api.OpEnd && w.cellsBehind() > 0 }

// cellsBehind is how many cells the stack has behind the instruction.
func (w *walk) cellsBehind() int {
	cells := len(w.stack) - w.row.size()
	if w.row.puts != nothing {
		cells++
	}
	return cells
}
