package gen_test

import (
	"slices"
	"testing"

	"berth/api"
	"berth/audit"
	"berth/gen"
	"berth/share"
)

func sameProgram(p, q api.Program) bool {
	lists := slices.Equal(p.Texts, q.Texts) && slices.Equal(p.Nums, q.Nums) && slices.EqualFunc(p.Sets, q.Sets, slices.Equal) && slices.EqualFunc(p.NumSets, q.NumSets, slices.Equal)
	return lists && slices.Equal(p.Code, q.Code) && p.Depth == q.Depth && p.Locals == q.Locals
}

func isZero(p api.Program) bool {
	return p.Texts == nil && p.Nums == nil && p.Sets == nil && p.NumSets == nil && p.Code == nil && p.Depth == 0 && p.Locals == 0
}

// check holds P19.1 to P19.4 for a dag that has a program, and answers the program.
func check(t *testing.T, d api.Dag) api.Program {
	t.Helper()
	p, e := try(t, d)
	if e != api.OK {
		t.Fatalf("Gen of %s: %d", short(toldDag(d)), e)
	}
	return p
}

// try holds P19.1 to P19.4 for any valid dag.
func try(t *testing.T, d api.Dag) (api.Program, api.Errno) {
	t.Helper()
	if !share.Valid(d) {
		t.Fatalf("%s isn't valid", short(toldDag(d)))
	}
	got, e := gen.Gen(d)
	want, code := modelGen(d)
	if e != code || !sameProgram(got, want) {
		t.Fatalf("Gen of %s\n= %s, %d,\nwant %s, %d", short(toldDag(d)), short(told(got)), e, short(told(want)), code)
	}
	if e != api.OK {
		if !isZero(got) {
			t.Fatalf("beside %d: %s", e, short(told(got)))
		}
		return got, e
	}
	if fault := hasForm(got); fault != "" {
		t.Fatalf("Gen of %s\n= %s: no form: %s", short(toldDag(d)), short(told(got)), fault)
	}
	fault, stacks := audited(got)
	if fault != "" {
		t.Fatalf("Gen of %s\n= %s: refused: %s", short(toldDag(d)), short(told(got)), fault)
	}
	if shape, err := audit.Program(got); err != nil || shape != (api.Shape{Depth: got.Depth, Steps: len(got.Code)}) {
		t.Fatalf("Gen of %s\n= %s: audit: %v, %v", short(toldDag(d)), short(told(got)), shape, err)
	}
	tight(t, got, stacks)
	named(t, got)
	return got, e
}

// tight: P19.3: the Depth is the highest stack's, and each local is saved just once, in their order.
func tight(t *testing.T, p api.Program, stacks []string) {
	t.Helper()
	deep := 0
	for _, stack := range stacks {
		deep = max(deep, len(stack))
	}
	var saved []int
	for _, i := range p.Code {
		if i.Op == api.OpSave {
			saved = append(saved, i.A)
		}
	}
	if p.Depth != deep || !slices.Equal(saved, upTo(p.Locals)) {
		t.Fatalf("%s: the stack is %d high, the locals that are saved are %v", short(told(p)), deep, saved)
	}
}

// named: P19.2: each place of each pool is named by an instruction.
func named(t *testing.T, p api.Program) {
	t.Helper()
	places := map[byte]map[int]bool{'t': {}, 'n': {}, 's': {}, 'm': {}}
	for _, i := range p.Code {
		for k, n := range operandsOf(i) {
			if known := places[table[i.Op].operands[k]]; known != nil {
				known[n] = true
			}
		}
	}
	if len(places['t']) != len(p.Texts) || len(places['n']) != len(p.Nums) || len(places['s']) != len(p.Sets) || len(places['m']) != len(p.NumSets) {
		t.Fatalf("%s: a constant is named by nothing", short(told(p)))
	}
}

// expect: which code a dag has, and its Depth and Locals.
func expect(t *testing.T, d api.Dag, code string, depth, locals int) {
	t.Helper()
	got := check(t, d)
	if toldCode(got) != code || got.Depth != depth || got.Locals != locals {
		t.Errorf("Gen of %s\n= %s, depth %d, locals %d,\nwant %s, depth %d, locals %d", toldDag(d), toldCode(got), got.Depth, got.Locals, code, depth, locals)
	}
}

// refused: what Gen doesn't take.
func refused(t *testing.T, d api.Dag, want api.Errno) {
	t.Helper()
	if got, e := gen.Gen(d); e != want || !isZero(got) {
		t.Errorf("Gen of %s\n= %s, %d, want %d", short(toldDag(d)), short(told(got)), e, want)
	}
}
