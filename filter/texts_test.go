package filter_test

import (
	"bytes"
	"errors"
	"slices"
	"strings"
	"testing"

	"berth/api"
	"berth/audit"
	"berth/code"
	"berth/filter"
	"berth/gen"
	"berth/merge"
	"berth/norm"
	"berth/share"
)

// expectText holds P23.1 for any source and scope, and P6 for what Compile answers. It hands on the fault.
func expectText(t *testing.T, source string, scope api.Side) string {
	t.Helper()
	want, fault := read(source, scope)
	tree, err := filter.Tree(source, scope)
	if told(err) != fault || !sameTree(tree, want) {
		t.Fatalf("Tree(%q, %d): %v, %s, want %v, %s", short(source), scope, tree, told(err), want, fault)
	}
	var f *api.Fault
	if errors.As(err, &f) && f.Code != api.ErrSortSide && (f.At < 0 || f.At > len(source)) {
		t.Fatalf("Tree(%q, %d): At is %d", short(source), scope, f.At)
	}
	if scope != api.OfNode {
		return fault
	}
	b, err := filter.Compile(source)
	if told(err) != fault {
		t.Fatalf("Compile(%q): %s, want %s", short(source), told(err), fault)
	}
	if err != nil {
		if len(b) > 0 {
			t.Fatalf("Compile(%q): % x beside %s", short(source), b, fault)
		}
		return fault
	}
	plan, _ := norm.Plan(want, api.OfNode)
	plan, _ = merge.Merge(plan)
	dag, _ := share.Share(plan)
	program, _ := gen.Gen(dag)
	written, e := code.Encode(program)
	if e != api.OK || !bytes.Equal(b, written) {
		t.Fatalf("Compile(%q): % x, want % x, %d", short(source), b, written, e)
	}
	if _, _, err := audit.Bytes(b); err != nil {
		t.Fatalf("Compile(%q): % x: %s", short(source), b, told(err))
	}
	return fault
}

// P23.1: faults of each of the lower layers, with their places.
func TestFaultsOfSources(t *testing.T) {
	long := strings.Repeat(" ", 4093) + "true"
	for _, c := range []struct {
		source string
		scope  api.Side
		fault  string
	}{
		{"", api.OfNode, "121 at 0"}, {"", api.OfIt, "121 at 0"}, {" \n# only this", api.OfNode, "121 at 13"},
		{long, api.OfNode, "110 at 4096"}, {long[1:], api.OfNode, "none"}, {long[1:], api.OfIt, "none"},
		{"true & false", api.OfNode, "111 at 5"}, {`node.name == "a`, api.OfNode, "112 at 13"}, {`"\y" == "a"`, api.OfIt, "113 at 1"},
		{"007 == 1", api.OfNode, "114 at 0"}, {`"` + strings.Repeat("x", 128) + `" == "a"`, api.OfNode, "115 at 0"},
		{"true true", api.OfNode, "120 at 5"}, {"(true", api.OfIt, "121 at 5"}, {strings.Repeat("!", 33) + "true", api.OfNode, "122 at 32"},
		{strings.Repeat("!", 32) + "true", api.OfNode, "none"}, {strings.Repeat("!", 32) + "true", api.OfIt, "none"},
		{"1 in {" + strings.Repeat("1,", 64) + "1}", api.OfNode, "124 at 134"}, {"1 in {" + strings.Repeat("1,", 63) + "1}", api.OfNode, "none"},
		{strings.Repeat("true||", 999) + "true", api.OfNode, "110 at 4096"}, {strings.Repeat("1==1||", 333) + "true", api.OfNode, "123 at 4"}, {strings.Repeat("1==1||", 333) + "1==1", api.OfIt, "123 at 2001"}, {strings.Repeat("1==1||", 332) + "1==1", api.OfNode, "none"},
		// the faults of layer 14, at the offset of their part
		{`  node.name # who` + "\n < \"b\"", api.OfNode, "141 at 19"}, {`true && "a" == 3`, api.OfNode, "141 at 15"}, {`(3 in {"x"})`, api.OfIt, "141 at 6"},
		{`it["a"] == "b"`, api.OfNode, "142 at 0"}, {`near("zone", node.name == "a")`, api.OfNode, "142 at 13"}, {`!(node.name == "a")`, api.OfIt, "142 at 2"}, {`"k" in it.taints`, api.OfIt, "142 at 7"},
		{`near("zone", apart("rack", true))`, api.OfNode, "143 at 13"}, {`true || near("zone", true)`, api.OfIt, "143 at 8"}, {`1 < count("zone", true)`, api.OfIt, "143 at 4"},
		{`node["a"] == node["b"]`, api.OfNode, "144 at 10"}, {`it["a"] in it.keys`, api.OfIt, "144 at 8"},
		{`1 in {"a", 1, "b"}`, api.OfNode, "146 at 11"}, {`node["a b"] == "x"`, api.OfNode, "147 at 0"}, {`true && tolerated("Never")`, api.OfNode, "147 at 8"}, {`near("", true)`, api.OfNode, "147 at 0"},
		{`int(node.name) == 3`, api.OfNode, "148 at 4"},
		// those of layers 11 and 12 come first
		{`it.name == "a" &`, api.OfNode, "111 at 15"}, {`it.name == "a" &&`, api.OfNode, "121 at 17"}, {`node["a"] == node["b"] true`, api.OfNode, "120 at 23"},
	} {
		if got := expectText(t, c.source, c.scope); got != c.fault {
			t.Errorf("%q, %d: %s, want %s", short(c.source), c.scope, got, c.fault)
		}
	}
}

// P23.1: a scope that is none is told ahead of all that a source may have.
func TestScopes(t *testing.T) {
	r := newChance(1)
	sources := []string{"", "true", "&", "true true", `it.name == "a"`, `node.name < "a"`, strings.Repeat(" ", 5000)}
	for range 300 {
		sources = append(sources, r.source(one(r, api.OfNode, api.OfIt)))
	}
	for _, source := range sources {
		for _, scope := range []api.Side{api.Fixed, api.OfPod, 4, -1, -2, -3, 1 << 62, -1 << 63} {
			if got := expectText(t, source, scope); got != "149 at -1" {
				t.Errorf("%q, %d: %s", source, scope, got)
			}
		}
	}
}

// P23.1, P1: sources of all kinds in both scopes, spoilt ones too.
func TestAnySource(t *testing.T) {
	r := newChance(2)
	seen := map[string]int{}
	for range 20000 {
		scope := one(r, api.OfNode, api.OfIt)
		code, _, _ := strings.Cut(expectText(t, r.source(scope), one(r, scope, scope, scope, api.OfNode, api.OfIt)), " ")
		seen[code]++
	}
	for _, code := range []string{"none", "111", "112", "114", "120", "121", "141", "142", "143", "147"} {
		if seen[code] < 20 {
			t.Errorf("only %d times %s: %v", seen[code], code, seen)
		}
	}
}

// P23.1, P1: bytes of any kind.
func TestAnyBytes(t *testing.T) {
	r := newChance(4)
	alphabet := []byte("node.itpeac[]\"(){}=!<>&|,12 \n#\\\x00\xff")
	for range 20000 {
		source := make([]byte, r.IntN(12))
		for i := range source {
			source[i] = one(r, alphabet...)
		}
		expectText(t, string(source), one(r, api.OfNode, api.OfIt))
	}
	for _, size := range []int{4095, 4096, 4097, 1 << 20} {
		for _, piece := range []string{"(", "!", "\x00", `"`, "{", "1,", "true&&", "é"} {
			expectText(t, strings.Repeat(piece, size/len(piece)+1)[:size], api.OfNode)
		}
	}
}

// P23.1: blanks and remarks ahead of a source move the place of a fault by their length.
func TestFaultsMove(t *testing.T) {
	r := newChance(5)
	for range 5000 {
		source, scope := r.source(api.OfNode), one(r, api.OfNode, api.OfIt)
		ahead := strings.Repeat(one(r, " ", "\n", "# no\n"), r.IntN(5))
		_, err := filter.Tree(source, scope)
		_, moved := filter.Tree(ahead+source, scope)
		var f *api.Fault
		if errors.As(err, &f) {
			err = &api.Fault{Code: f.Code, At: f.At + len(ahead)}
		}
		if told(err) != told(moved) {
			t.Fatalf("%q behind %q: %s, want %s", source, ahead, told(moved), told(err))
		}
	}
}

// P23.7, R9: what is answered is new memory, and the same each time.
func TestTextsAnew(t *testing.T) {
	r := newChance(6)
	for range 2000 {
		source := r.source(api.OfNode)
		tree, _ := filter.Tree(source, api.OfNode)
		b, _ := filter.Compile(source)
		was := slices.Clone(b)
		other, _ := filter.Compile(source)
		clear(other[:cap(other)])
		for _, part := range tree.Parts {
			clear(part.Kids[:cap(part.Kids)])
		}
		clear(tree.Parts[:cap(tree.Parts)])
		if !bytes.Equal(b, was) {
			t.Fatalf("%q: another answer has changed", source)
		}
		expectText(t, source, api.OfNode)
	}
}
