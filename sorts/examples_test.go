package sorts_test

import (
	"testing"

	"berth/api"
	"berth/parse"
	"berth/sorts"
)

// P14.1: the chapter's examples that are taken.
func TestExamplesTaken(t *testing.T) {
	for _, c := range []struct {
		source string
		scope  api.Side
		types  string
	}{
		{`true`, api.OfNode, "bool Fixed"},
		{`node["zone"] == "a"`, api.OfNode, "text OfNode; text Fixed; bool OfNode"},
		{`pod["x"] in {}`, api.OfNode, "text OfPod; empty Fixed; bool OfPod"},
		{`near("zone", it["app"] == pod["app"])`, api.OfNode, "text OfIt; text OfPod; bool OfIt; bool OfNode"},
		{`it["app"] == "web"`, api.OfIt, "text OfIt; text Fixed; bool OfIt"},
	} {
		expectTypes(t, read(t, c.source), c.scope, c.types)
	}
}

// P14.1, P14.2: the chapter's examples that are refused.
func TestExamplesRefused(t *testing.T) {
	for _, c := range []struct {
		source string
		scope  api.Side
		code   api.Errno
		at     int
	}{
		{`it["app"] == "web"`, api.OfNode, api.ErrSortScope, 0},
		{`near("zone", node["a"] == "b")`, api.OfNode, api.ErrSortScope, 0},
		{`near("zone", apart("rack", true))`, api.OfNode, api.ErrSortInner, 1},
		{`near("zone", true)`, api.OfIt, api.ErrSortInner, 1},
		{`node.name < "b"`, api.OfNode, api.ErrSortType, 2},
		{`node.name == 3`, api.OfNode, api.ErrSortType, 1},
		{`node["a"] == node["b"]`, api.OfNode, api.ErrSortSides, 2},
		{`count("zone", true) >= node.cap("cpu")`, api.OfNode, api.ErrSortSides, 3},
		{`{"a", 1, "b"} == 2`, api.OfNode, api.ErrSortSet, 1},
		{`int(node.name) == 3`, api.OfNode, api.ErrSortInt, 0},
		{`node["a b"] == "x"`, api.OfNode, api.ErrSortKey, 0},
		{`tolerated("Never")`, api.OfNode, api.ErrSortKey, 0},
		{`node["x"] in "x"`, api.OfNode, api.ErrSortType, 1},
		{`{1} == 2`, api.OfNode, api.ErrSortType, 1},
		{`2 == {1}`, api.OfNode, api.ErrSortType, 2},
		{`true`, api.OfPod, api.ErrSortSide, -1},
		{`{1} == 2`, api.OfPod, api.ErrSortSide, -1},
	} {
		expectFault(t, read(t, c.source), c.scope, c.code, c.at)
	}
	alone := api.Tree{Parts: []api.Part{{Kind: api.KName, Num: node}}}
	cause := &api.Fault{Code: api.ErrTree, At: 0}
	expect(t, alone, api.OfNode, nil, &api.Fault{Code: api.ErrSortTree, At: 0, Cause: cause})
	expectFault(t, alone, api.OfPod, api.ErrSortSide, -1)
}

// P14.2: the examples of DOC.md tell where in its source the part begins.
func TestExamplesOfTheWhole(t *testing.T) {
	for _, c := range []struct {
		source string
		code   api.Errno
		offset int
	}{
		{`node.name < "b"`, api.ErrSortType, 10},
		{`near("zone", node.name == "a")`, api.ErrSortScope, 13},
	} {
		tree, offsets, err := parse.Parse(c.source)
		if err != nil {
			t.Fatal(err)
		}
		_, err = sorts.Check(tree, api.OfNode)
		if f, ok := err.(*api.Fault); !ok || f.Code != c.code || offsets[f.At] != c.offset {
			t.Errorf("%q: %v", c.source, err)
		}
	}
	for _, source := range []string{
		`node["zone"] in {"x", "z"} && !(node["disk"] == "hdd")`,
		`!(int(node["gen"]) < 8)`,
		`near("zone", it["app"] == "web")`,
		`apart("zone", it["app"] == "web")`,
		`count("zone", true) != 1`,
		`node["zone"] == "x" || node["zone"] != "x"`,
	} {
		expectTaken(t, read(t, source), api.OfNode)
	}
}

// P14.1: the numbers that the chapter gives to the errors, the sorts and the sides.
func TestNumbers(t *testing.T) {
	for at, e := range []api.Errno{api.ErrSortTree, api.ErrSortType, api.ErrSortScope, api.ErrSortInner, api.ErrSortSides, api.ErrSortRoot, api.ErrSortSet, api.ErrSortKey, api.ErrSortInt, api.ErrSortSide} {
		if e != api.Errno(140+at) {
			t.Errorf("the error %d has the number %d", 140+at, e)
		}
	}
	for at, s := range []api.Sort{api.SortBool, api.SortText, api.SortNum, api.SortTexts, api.SortNums, api.SortEmpty} {
		if s != api.Sort(1+at) {
			t.Errorf("the sort %d has the number %d", 1+at, s)
		}
	}
	for at, s := range []api.Side{api.Fixed, api.OfPod, api.OfNode, api.OfIt} {
		if s != api.Side(at) {
			t.Errorf("the side %d has the number %d", at, s)
		}
	}
}
