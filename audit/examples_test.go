package audit_test

import (
	"fmt"
	"testing"

	"berth/api"
	"berth/audit"
)

// example is a program of the chapter's examples: Texts [a], Sets [[x]], Locals 1.
func example(depth int, code ...api.Instr) api.Program {
	return api.Program{Texts: []string{"a"}, Sets: [][]string{{"x"}}, Depth: depth, Locals: 1, Code: code}
}

// The chapter's examples, P21.1 and P21.3.
func TestExamples(t *testing.T) {
	all, pods, and, end := op(api.OpAll), op(api.OpAll, 1), op(api.OpAnd), op(api.OpEnd)
	wantDepth(t, "1", example(2, all, end), 1)
	wantFault(t, "1", example(0, all, end), api.ErrOver, 0)
	wantFault(t, "1", example(2, pods, end), api.ErrKind, 1)
	wantFault(t, "2", example(2, end), api.ErrUnder, 0)
	wantFault(t, "2", example(2), api.ErrStop, 0)
	wantFault(t, "2", example(2, all), api.ErrStop, 0)
	wantFault(t, "2", example(2, all, all, end), api.ErrStop, 2)
	wantFault(t, "2", example(2, all, end, end), api.ErrStop, 1)
	wantFault(t, "3", example(2, op(api.OpTexts, 1), end), api.ErrOperand, 0)
	wantDepth(t, "3", example(2, op(api.OpTexts, 0), op(api.OpLabel, 0, 0), end), 1)
	wantFault(t, "3", example(2, op(api.OpTexts, 0, 1), end), api.ErrOperand, 0)
	wantFault(t, "4", example(2, all, op(api.OpJumpNone, 1), end), api.ErrTarget, 1)
	wantFault(t, "4", example(2, all, op(api.OpJumpNone, 3), all, end), api.ErrJoin, 3)
	wantFault(t, "5", example(2, all, op(api.OpJumpNone, 4), op(api.OpSave), all, op(api.OpLoad), and, end), api.ErrLocal, 4)
	six := example(2, all, op(api.OpSave), op(api.OpLoad), op(api.OpLoad), and, end)
	wantDepth(t, "6", six, 2)
	if stacks, err := audit.Stacks(six); err != nil || fmt.Sprint(stacks) != "[[] [1] [] [1] [1 1] [1]]" {
		t.Errorf("6: %v, %v", stacks, err)
	}
	wantFault(t, "7", example(2, all, pods, and, end), api.ErrKind, 2)
	wantFault(t, "7", example(2, all, and, end), api.ErrUnder, 1)
}

// The errors' numbers, and the kinds of cells, are those of the document.
func TestNumbers(t *testing.T) {
	for name, pair := range map[string][2]api.Errno{
		"ErrDeclared": {api.ErrDeclared, 210}, "ErrInstr": {api.ErrInstr, 211}, "ErrOperand": {api.ErrOperand, 212}, "ErrTarget": {api.ErrTarget, 213},
		"ErrUnder": {api.ErrUnder, 214}, "ErrKind": {api.ErrKind, 215}, "ErrOver": {api.ErrOver, 216}, "ErrLocal": {api.ErrLocal, 217}, "ErrJoin": {api.ErrJoin, 218}, "ErrStop": {api.ErrStop, 219},
	} {
		if pair[0] != pair[1] {
			t.Errorf("%s is %d", name, pair[0])
		}
	}
	if len(lines) != 37 || api.OpNone != 1 || api.OpEnd != 36 {
		t.Errorf("%d lines", len(lines)-1)
	}
}

// P21.2: the bytes of example 7 of the whole; with Depth 0; cut off; and with a byte behind them.
func TestBytesOfTrue(t *testing.T) {
	b := []byte("BRT\x01\x01\x00\x00\x00\x00\x00\x02\x02\x00\x24")
	p, shape, err := audit.Bytes(b)
	if err != nil || shape != (api.Shape{Depth: 1, Steps: 2}) || !sameProgram(p, api.Program{Depth: 1, Code: join(op(api.OpAll), end())}) {
		t.Errorf("%s, %v, %v", told(p), shape, err)
	}
	for _, x := range []struct {
		bytes string
		want  fault
	}{
		{"BRT\x01\x00\x00\x00\x00\x00\x00\x02\x02\x00\x24", fault{api.ErrOver, 0}},
		{"BRT\x01\x01\x00\x00\x00\x00\x00\x02\x02\x01\x24", fault{api.ErrKind, 1}},
		{"BRT\x01\x01\x00\x00\x00\x00\x00\x00", fault{api.ErrStop, 0}},
		{"BRT\x01\x01\x00\x00\x00\x00\x00\x01\x02\x00", fault{api.ErrStop, 0}},
		{"BRT\x01\x01\x00\x00\x00\x00\x00\x02\x02\x00", fault{api.ErrCodeCut, 13}},
		{"BRT\x01\x01\x00\x00\x00\x00\x00\x02\x02\x00\x24\x24", fault{api.ErrCodeRest, 14}},
		{"BRT\x01\x01\x00\x00\x00\x00\x00\x02\x02\x00\x25", fault{api.ErrCodeOp, 13}},
		{"BRT\x01\x81\x01", fault{api.ErrCodeLimit, 4}},
		{"BRT\x01\x81\x00", fault{api.ErrCodeNumber, 4}},
		{"BRT\x01\x01\x00\x02\x01b\x01a", fault{api.ErrCodePool, 9}},
		{"BRX", fault{api.ErrCodeMagic, 2}},
		{"", fault{api.ErrCodeCut, 0}},
	} {
		p, shape, err := audit.Bytes([]byte(x.bytes))
		if !isFault(err, x.want) || shape != (api.Shape{}) || !sameProgram(p, api.Program{}) {
			t.Errorf("%q: %s, %v, %v, want %d at %d", x.bytes, told(p), shape, err, x.want.code, x.want.at)
		}
	}
}
