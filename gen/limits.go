package gen

import "berth/api"

// overstepped is the error of the first limit that a program doesn't keep to. (A dag is too small for MaxCode and MaxPool to be overstepped: what bars a program as too great are its locals.)
func overstepped(p api.Program) api.Errno {
	pools := len(p.Texts) + len(p.Nums) + len(p.Sets) + len(p.NumSets)
	switch {
	case p.Depth > api.MaxDeep:
		return api.ErrDeep
	case len(p.Code) > api.MaxCode, pools > api.MaxPool, p.Locals > api.MaxLocals:
		return api.ErrGreat
	}
	return api.OK
}

// depthOf goes straight on through the code: a jump leads to where the stack is as high as it is at the jump, so no other way makes it higher.
func depthOf(code []api.Instr) int {
	depth, cells := 0, 0
	for _, i := range code {
		cells += growth(i.Op)
		depth = max(depth, cells)
	}
	return depth
}

// growth: how many cells more than ahead of it the stack holds behind an instruction of those that are written here.
func growth(op api.Op) int {
	switch op {
	case api.OpNone, api.OpAll, api.OpText, api.OpTexts, api.OpNum, api.OpNums, api.OpPodLabel, api.OpPodName, api.OpPodKeys, api.OpTolerated, api.OpLoad:
		return 1
	case api.OpCount, api.OpCountIn, api.OpMember, api.OpCompare, api.OpAmong, api.OpAnd, api.OpOr, api.OpAndNot, api.OpSave, api.OpEnd:
		return -1
	}
	return 0
}
