package gen_test

import (
	"slices"
	"testing"

	"berth/api"
	"berth/gen"
	"berth/merge"
	"berth/norm"
	"berth/parse"
	"berth/share"
)

func op(o api.Op, operands ...int) api.Instr {
	operands = append(operands, 0, 0, 0)
	return api.Instr{Op: o, A: operands[0], B: operands[1], C: operands[2]}
}

// exactly: which program a dag has, to the last operand.
func exactly(t *testing.T, d api.Dag, want api.Program) {
	t.Helper()
	if got := check(t, d); !sameProgram(got, want) {
		t.Errorf("Gen of %s\n= %s,\nwant %s", toldDag(d), told(got), told(want))
	}
}

func on(key string) api.DagPart { return leaf(texts(labelTerm(api.OfNode, key), "1")) }

// P19.1 to P19.3: the chapter's examples.
func TestExamples(t *testing.T) {
	exactly(t, dag(yes), api.Program{Code: []api.Instr{op(api.OpAll, 0), op(api.OpEnd)}, Depth: 1})

	disk := leaf(texts(labelTerm(api.OfNode, "disk"), "nvme", "ssd"))
	exactly(t, dag(leaf(zone("x")), disk, node(api.DNot, 1), node(api.DAnd, 0, 2)), api.Program{
		Texts: []string{"disk", "zone"},
		Sets:  [][]string{{"nvme", "ssd"}, {"x"}},
		Code:  []api.Instr{op(api.OpTexts, 1), op(api.OpLabel, 0, 1), op(api.OpJumpNone, 6), op(api.OpTexts, 0), op(api.OpLabel, 0, 0), op(api.OpAndNot), op(api.OpEnd)},
		Depth: 2,
	})

	exactly(t, dag(on("l"), on("m"), node(api.DAnd, 0, 1), on("n"), node(api.DAnd, 3, 0), node(api.DOr, 2, 4)), api.Program{
		Texts: []string{"l", "m", "n"},
		Sets:  [][]string{{"1"}},
		Code: []api.Instr{
			op(api.OpTexts), op(api.OpLabel, 0, 0), op(api.OpSave, 0),
			op(api.OpLoad, 0), op(api.OpJumpNone, 8), op(api.OpTexts), op(api.OpLabel, 0, 1), op(api.OpAnd),
			op(api.OpJumpAll, 15), op(api.OpTexts), op(api.OpLabel, 0, 2), op(api.OpJumpNone, 14), op(api.OpLoad, 0), op(api.OpAnd), op(api.OpOr), op(api.OpEnd),
		},
		Depth:  3,
		Locals: 1,
	})

	app := beside(labelTerm(api.OfIt, "app"), api.CmpEq, labelTerm(api.OfPod, "app"))
	exactly(t, dag(forPods(leaf(app)), leaf(near("zone", 0))), api.Program{
		Texts: []string{"app", "zone"},
		Code:  []api.Instr{op(api.OpPodLabel, 0), op(api.OpOne), op(api.OpLabel, 1, 0), op(api.OpNear, 0, 1), op(api.OpEnd)},
		Depth: 1,
	})
}

// planOf is the plan of a source.
func planOf(t *testing.T, source string) api.Plan {
	t.Helper()
	tree, _, err := parse.Parse(source)
	if err != nil {
		t.Fatalf("%q: %v", source, err)
	}
	p, e := norm.Plan(tree, api.OfNode)
	if e != api.OK {
		t.Fatalf("%q: %d", source, e)
	}
	return p
}

// dagsOf are the dags of a source: of what layer 17 makes of its plan, and of its plan itself.
func dagsOf(t *testing.T, source string) (merged, plain api.Dag) {
	t.Helper()
	return dagsOfPlan(t, planOf(t, source))
}

func dagsOfPlan(t *testing.T, p api.Plan) (merged, plain api.Dag) {
	t.Helper()
	small, e := merge.Merge(p)
	merged, f := share.Share(small)
	plain, g := share.Share(p)
	if e != api.OK || f != api.OK || g != api.OK {
		t.Fatal(e, f, g)
	}
	return merged, plain
}

// P19.1: the chapter's examples and those of the whole, from their sources on.
func TestExamplesOfSources(t *testing.T) {
	for _, x := range []struct {
		source, code string
		depth        int
	}{
		{`true`, `All 0; End`, 1},
		{`node["zone"] == "x" || node["zone"] != "x"`, `All 0; End`, 1},
		{`node["zone"] == "x" && node["zone"] in {"y"}`, `None 0; End`, 1},
		{`node["zone"] == "x" && !(node["disk"] in {"ssd", "nvme"})`, `Texts x; Label 0 zone; JumpNone 6; Texts nvme ssd; Label 0 disk; AndNot; End`, 2},
		{`near("zone", it["app"] == pod["app"])`, `PodLabel app; One; Label 1 app; Near zone; End`, 1},
		{`node["zone"] in {"x", "z"} && !(node["disk"] == "hdd")`, `Texts x z; Label 0 zone; JumpNone 6; Texts hdd; Label 0 disk; AndNot; End`, 2},
		{`int(node["gen"]) < 8`, `Num 7; Number 0 gen <=; End`, 1},
		{`!(int(node["gen"]) < 8)`, `Num 7; Number 0 gen <=; Not; End`, 1},
		{`apart("zone", it["app"] == "web")`, `Texts web; Label 1 app; Near zone; Not; End`, 1},
		{`count("zone", true) != 1`, `All 1; Nums 1; CountIn zone; Not; End`, 2},
	} {
		merged, _ := dagsOf(t, x.source)
		expect(t, merged, x.code, x.depth, 0)
	}
}

// The errors and limits have the chapter's numbers.
func TestNumbers(t *testing.T) {
	got := []int{int(api.ErrDag), int(api.ErrDeep), int(api.ErrGreat), api.MaxDeep, api.MaxCode, api.MaxPool, api.MaxLocals, api.MaxDag}
	if want := []int{190, 191, 192, 128, 32768, 4096, 1024, 2000}; !slices.Equal(got, want) {
		t.Errorf("%v, want %v", got, want)
	}
	if _, e := gen.Gen(api.Dag{}); e != 190 {
		t.Error(e)
	}
}
