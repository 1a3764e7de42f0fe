package audit_test

import (
	"slices"
	"testing"

	"berth/api"
	"berth/audit"
	"berth/code"
)

// fault is a place with the error that is told of it; the zero one is none.
type fault struct {
	code api.Errno
	at   int
}

// letters are the kinds of a stack's cells, a letter each.
func letters(stack []api.Cell) string {
	out := ""
	for _, cell := range stack {
		out += map[api.Cell]string{api.CellNodes: "N", api.CellPods: "P", api.CellText: "t", api.CellNum: "n", api.CellTexts: "T", api.CellNums: "M"}[cell]
	}
	return out
}

// isFault: whether an error is this one, with nothing beside its code and place.
func isFault(err error, want fault) bool {
	f, is := err.(*api.Fault)
	return is && f != nil && *f == (api.Fault{Code: want.code, At: want.at})
}

// sameProgram: whether two programs are alike; an empty list and none are (R5).
func sameProgram(a, b api.Program) bool {
	return a.Depth == b.Depth && a.Locals == b.Locals && slices.Equal(a.Texts, b.Texts) && slices.Equal(a.Nums, b.Nums) &&
		slices.EqualFunc(a.Sets, b.Sets, slices.Equal) && slices.EqualFunc(a.NumSets, b.NumSets, slices.Equal) && slices.Equal(a.Code, b.Code)
}

// deepest is the size of the greatest stack.
func deepest(stacks []string) int {
	deep := 0
	for _, stack := range stacks {
		deep = max(deep, len(stack))
	}
	return deep
}

// try holds Program and Stacks against the model, and Bytes of the program's bytes, if it has some; it hands on the fault, and the shape beside none.
func try(t *testing.T, p api.Program) (fault, api.Shape) {
	t.Helper()
	return tryAs(t, p, judge(p))
}

// tryAs is try, with what the model says of the program.
func tryAs(t *testing.T, p api.Program, want verdict) (fault, api.Shape) {
	t.Helper()
	shape, err := audit.Program(p)
	stacks, wrong := audit.Stacks(p)
	b, e := code.Encode(p)
	if e == api.OK {
		tryBytes(t, b, want)
	}
	if want.code != api.OK {
		first := fault{want.code, want.at}
		if !isFault(err, first) || !isFault(wrong, first) || shape != (api.Shape{}) || stacks != nil {
			t.Fatalf("%s\nProgram: %v, %v; Stacks: %v, %v; want %d at %d", told(p), shape, err, stacks, wrong, want.code, want.at)
		}
		return first, shape
	}
	if err != nil || wrong != nil || shape != (api.Shape{Depth: deepest(want.stacks), Steps: len(p.Code)}) {
		t.Fatalf("%s\nProgram: %v, %v; Stacks: %v, want the stacks %.1000q", told(p), shape, err, wrong, want.stacks)
	}
	if !slices.EqualFunc(stacks, want.stacks, func(a []api.Cell, b string) bool { return letters(a) == b && len(a) == len(b) }) {
		t.Fatalf("%s\nStacks: %.1000v, want %.1000q", told(p), stacks, want.stacks)
	}
	return fault{}, shape
}

// tryBytes holds Bytes of a program's bytes against what the model says of the program.
func tryBytes(t *testing.T, b []byte, want verdict) {
	t.Helper()
	p, shape, err := audit.Bytes(b)
	if want.code != api.OK {
		if !isFault(err, fault{want.code, want.at}) || shape != (api.Shape{}) || !sameProgram(p, api.Program{}) {
			t.Fatalf("Bytes(% x): %s, %v, %v; want %d at %d", b[:min(len(b), 500)], told(p), shape, err, want.code, want.at)
		}
		return
	}
	again, e := code.Encode(p)
	if err != nil || e != api.OK || !slices.Equal(again, b) || shape != (api.Shape{Depth: deepest(want.stacks), Steps: len(p.Code)}) {
		t.Fatalf("Bytes(% x): %s, %v, %v", b[:min(len(b), 500)], told(p), shape, err)
	}
}

// wantFault holds a program against the model and against the fault that is written down here.
func wantFault(t *testing.T, name string, p api.Program, code api.Errno, at int) {
	t.Helper()
	if got, _ := try(t, p); got != (fault{code, at}) {
		t.Errorf("%s: %s\n%d at %d, want %d at %d", name, told(p), got.code, got.at, code, at)
	}
}

// wantDepth holds a program against the model and against the depth that is written down here.
func wantDepth(t *testing.T, name string, p api.Program, depth int) {
	t.Helper()
	got, shape := try(t, p)
	if got != (fault{}) || shape != (api.Shape{Depth: depth, Steps: len(p.Code)}) {
		t.Errorf("%s: %s\n%d at %d, %v, want the depth %d", name, told(p), got.code, got.at, shape, depth)
	}
}

// small is a program with one element in each pool and two locals.
func small(depth int, code ...api.Instr) api.Program {
	return api.Program{Texts: []string{"a"}, Nums: []int{7}, Sets: [][]string{{"x"}}, NumSets: [][]int{{7}}, Depth: depth, Locals: 2, Code: code}
}

// join lays code, single instructions and lists of them, one behind the other.
func join(pieces ...any) []api.Instr {
	var out []api.Instr
	for _, piece := range pieces {
		switch x := piece.(type) {
		case api.Instr:
			out = append(out, x)
		case []api.Instr:
			out = append(out, x...)
		}
	}
	return out
}

// end is the last instruction of a program.
func end() api.Instr { return op(api.OpEnd) }

// puts is code that puts cells of these kinds on the stack, one instruction each.
func puts(kinds string) []api.Instr {
	each := map[rune]api.Instr{'N': op(api.OpAll), 'P': op(api.OpAll, 1), 't': op(api.OpPodName), 'n': op(api.OpNum), 'T': op(api.OpPodKeys), 'M': op(api.OpNums)}
	var out []api.Instr
	for _, kind := range kinds {
		out = append(out, each[kind])
	}
	return out
}

// finish is code that ends a program whose stack has so many cells.
func finish(cells int) []api.Instr {
	return join(slices.Repeat([]api.Instr{op(api.OpPop)}, cells), op(api.OpAll), end())
}
