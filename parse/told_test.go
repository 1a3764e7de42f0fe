package parse_test

import (
	"fmt"
	"strings"
	"testing"

	"berth/api"
	"berth/parse"
)

var kindNames = map[api.Kind]string{
	api.KTrue: "true", api.KFalse: "false", api.KNot: "not", api.KAnd: "and", api.KOr: "or", api.KCmp: "cmp", api.KIn: "in", api.KNear: "near", api.KApart: "apart",
	api.KTolerated: "tolerated", api.KText: "text", api.KNum: "num", api.KSet: "set", api.KLabel: "label", api.KName: "name", api.KKeys: "keys", api.KTaints: "taints",
	api.KCap: "cap", api.KInt: "int", api.KCount: "count",
}

// told writes a tree down, part by part: its kind, Text, Num and Kids, where they aren't empty, and its offset.
func told(tree api.Tree, offsets []int) string {
	var list []string
	for i, part := range tree.Parts {
		s := kindNames[part.Kind]
		if part.Text != "" {
			s += " " + part.Text
		}
		if part.Num != 0 {
			s += fmt.Sprint(" ", part.Num)
		}
		if len(part.Kids) > 0 {
			s += fmt.Sprint(" ", part.Kids)
		}
		if i < len(offsets) {
			s += fmt.Sprint(" @", offsets[i])
		}
		list = append(list, s)
	}
	return strings.Join(list, "; ")
}

// expectTree: a source that reads as the tree that is told.
func expectTree(t *testing.T, source, want string) {
	t.Helper()
	tree, offsets, err := parse.Parse(source)
	if got := told(tree, offsets); err != nil || got != want {
		t.Errorf("Parse(%q)\n  = %s, %v\nwant %s", show(source), got, err, want)
	}
	check(t, source)
}

// expectFault: a source that is refused.
func expectFault(t *testing.T, source string, code api.Errno, at int) {
	t.Helper()
	expect(t, source, api.Tree{}, nil, wrong(code, at))
	check(t, source)
}

// expectSize: a source that reads as a tree of so many parts.
func expectSize(t *testing.T, source string, size int) {
	t.Helper()
	tree, offsets, err := parse.Parse(source)
	if err != nil || len(tree.Parts) != size || len(offsets) != size {
		t.Errorf("Parse(%q): %d parts, %d offsets, %v, want %d", show(source), len(tree.Parts), len(offsets), err, size)
	}
	check(t, source)
}
