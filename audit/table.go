package audit

import "berth/api"

// use is what an operand names.
type use int

const (
	unused use = iota
	side       // 0 for nodes, 1 for bound pods
	inTexts
	inNums
	inSets
	inNumSets
	relation
	local
	target
)

// Beside api's kinds of cells the rows name these, which the Op alone does not decide.
const (
	nothing  api.Cell = 0
	ofSide   api.Cell = 7  // a bitmap of what the operand A says
	bitmap   api.Cell = 8  // taken: a bitmap of either kind; put: one of the kind that was taken
	anything api.Cell = 9  // a cell of any kind
	ofLocal  api.Cell = 10 // a bitmap of the kind with which the local is set
)

// row is what an Op's operands name, and which cells it takes from the stack, the top last, and puts there.
type row struct {
	uses  [3]use
	takes [2]api.Cell
	puts  api.Cell
}

var rows = [...]row{
	api.OpNone:      {uses: [3]use{side}, puts: ofSide},
	api.OpAll:       {uses: [3]use{side}, puts: ofSide},
	api.OpText:      {uses: [3]use{inTexts}, puts: api.CellText},
	api.OpTexts:     {uses: [3]use{inSets}, puts: api.CellTexts},
	api.OpNum:       {uses: [3]use{inNums}, puts: api.CellNum},
	api.OpNums:      {uses: [3]use{inNumSets}, puts: api.CellNums},
	api.OpPodLabel:  {uses: [3]use{inTexts}, puts: api.CellText},
	api.OpPodName:   {puts: api.CellText},
	api.OpPodKeys:   {puts: api.CellTexts},
	api.OpOne:       {takes: [2]api.Cell{api.CellText}, puts: api.CellTexts},
	api.OpInt:       {takes: [2]api.Cell{api.CellText}, puts: api.CellNum},
	api.OpLabel:     {uses: [3]use{side, inTexts}, takes: [2]api.Cell{api.CellTexts}, puts: ofSide},
	api.OpName:      {uses: [3]use{side}, takes: [2]api.Cell{api.CellTexts}, puts: ofSide},
	api.OpHas:       {uses: [3]use{side}, takes: [2]api.Cell{api.CellTexts}, puts: ofSide},
	api.OpTaint:     {takes: [2]api.Cell{api.CellTexts}, puts: api.CellNodes},
	api.OpNumber:    {uses: [3]use{side, inTexts, relation}, takes: [2]api.Cell{api.CellNum}, puts: ofSide},
	api.OpNumberIn:  {uses: [3]use{side, inTexts}, takes: [2]api.Cell{api.CellNums}, puts: ofSide},
	api.OpCap:       {uses: [3]use{unused, inTexts, relation}, takes: [2]api.Cell{api.CellNum}, puts: api.CellNodes},
	api.OpCapIn:     {uses: [3]use{unused, inTexts}, takes: [2]api.Cell{api.CellNums}, puts: api.CellNodes},
	api.OpCount:     {uses: [3]use{unused, inTexts, relation}, takes: [2]api.Cell{api.CellPods, api.CellNum}, puts: api.CellNodes},
	api.OpCountIn:   {uses: [3]use{unused, inTexts}, takes: [2]api.Cell{api.CellPods, api.CellNums}, puts: api.CellNodes},
	api.OpNear:      {uses: [3]use{unused, inTexts}, takes: [2]api.Cell{api.CellPods}, puts: api.CellNodes},
	api.OpTolerated: {uses: [3]use{unused, inTexts}, puts: api.CellNodes},
	api.OpMember:    {uses: [3]use{side}, takes: [2]api.Cell{api.CellText, api.CellTexts}, puts: ofSide},
	api.OpCompare:   {uses: [3]use{side, unused, relation}, takes: [2]api.Cell{api.CellNum, api.CellNum}, puts: ofSide},
	api.OpAmong:     {uses: [3]use{side}, takes: [2]api.Cell{api.CellNum, api.CellNums}, puts: ofSide},
	api.OpAnd:       {takes: [2]api.Cell{bitmap, bitmap}, puts: bitmap},
	api.OpOr:        {takes: [2]api.Cell{bitmap, bitmap}, puts: bitmap},
	api.OpAndNot:    {takes: [2]api.Cell{bitmap, bitmap}, puts: bitmap},
	api.OpNot:       {takes: [2]api.Cell{bitmap}, puts: bitmap},
	api.OpSave:      {uses: [3]use{local}, takes: [2]api.Cell{bitmap}},
	api.OpLoad:      {uses: [3]use{local}, puts: ofLocal},
	api.OpJumpNone:  {uses: [3]use{target}, takes: [2]api.Cell{bitmap}, puts: bitmap},
	api.OpJumpAll:   {uses: [3]use{target}, takes: [2]api.Cell{bitmap}, puts: bitmap},
	api.OpPop:       {takes: [2]api.Cell{anything}},
	api.OpEnd:       {takes: [2]api.Cell{api.CellNodes}},
}

func isOp(op api.Op) bool { return api.OpNone <= op && op <= api.OpEnd }

// rowOf is the zero row where there is no such Op.
func rowOf(op api.Op) row {
	if !isOp(op) {
		return row{}
	}
	return rows[op]
}

// size is how many cells an Op takes.
func (r row) size() int {
	for k, kind := range r.takes {
		if kind == nothing {
			return k
		}
	}
	return len(r.takes)
}

func (r row) jumps() bool { return r.uses[0] == target }
