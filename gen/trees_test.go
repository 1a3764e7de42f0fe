package gen_test

import (
	"fmt"
	"slices"
	"strings"
	"testing"

	"berth/api"
	"berth/norm"
	"berth/parse"
	"berth/show"
)

// nested is a source of that many pairs of parentheses within one another, with a join of each kind in each; make makes its conditions.
func nested(n int, open, inner string, make func(i int) string) string {
	var out strings.Builder
	for i := range n {
		fmt.Fprintf(&out, "%s || %s && %s(", make(2*i), make(2*i+1), open)
	}
	return out.String() + inner + strings.Repeat(")", n)
}

func keyOf(who string) func(i int) string {
	return func(i int) string { return fmt.Sprintf(`"k%d" in %s.keys`, i, who) }
}

// P19.4: the most deeply nested sources that there are have a program.
func TestDeepSources(t *testing.T) {
	r := newChance(11)
	most := 0
	for _, source := range []string{
		nested(32, "", "true || node.name == pod.name", keyOf("node")),
		nested(32, "", `node.name == "a" && pod.name == "b"`, keyOf("node")),
		nested(16, "!", "true || node.name == pod.name", keyOf("node")),
		nested(15, "", `count("zone", `+nested(16, "", `it.name == "a"`, keyOf("it"))+") < 3", keyOf("node")),
		nested(20, "", `near("zone", `+nested(11, "", `it.name == "a" && pod.name == "x"`, keyOf("it"))+")", keyOf("node")),
		nested(8, "!", `apart("zone", `+nested(7, "!", `int(pod["a"]) < int(pod["b"])`, keyOf("it"))+")", keyOf("node")),
		strings.Repeat("!", 32) + "tolerated(\"NoSchedule\")",
		"true || " + strings.Repeat("(", 32) + "false" + strings.Repeat(")", 32),
	} {
		tree, _, err := parse.Parse(source)
		if err != nil {
			t.Fatalf("%s: %v", source, err)
		}
		nest, _ := show.Nest(tree)
		merged, plain := way(t, r, source, 5)
		most = max(most, nest)
		if merged.Depth > 70 || plain.Depth > 70 {
			t.Errorf("nest %d: depth %d, %d", nest, merged.Depth, plain.Depth)
		}
	}
	if most != 32 {
		t.Errorf("the deepest nest is %d", most)
	}
}

// branch is a part of a tree with its kids in it.
type branch struct {
	part api.Part
	kids []branch
}

func treeOf(b branch) api.Tree {
	var tree api.Tree
	var put func(b branch) int
	put = func(b branch) int {
		part := b.part
		for _, kid := range b.kids {
			part.Kids = append(part.Kids, put(kid))
		}
		tree.Parts = append(tree.Parts, part)
		return len(tree.Parts) - 1
	}
	put(b)
	return tree
}

func treePart(kind api.Kind, kids ...branch) branch { return branch{api.Part{Kind: kind}, kids} }

func holding(kind api.Kind, text string, num int, kids ...branch) branch {
	return branch{api.Part{Kind: kind, Text: text, Num: num}, kids}
}

func spreadTree(n int, make func(i int) branch) []branch {
	var out []branch
	for i := range n {
		out = append(out, make(i))
	}
	return out
}

// P19.4: trees of MaxParts parts, wide and deep, full of selectors, of sets and of what is used often, have a program.
func TestGreatTrees(t *testing.T) {
	tolerated := holding(api.KTolerated, "NoSchedule", 0)
	nearOf := func(i int) branch { return holding(api.KNear, fmt.Sprint("k", i), 0, treePart(api.KTrue)) }
	apartOf := func(i int) branch { return holding(api.KApart, fmt.Sprint("k", i), 0, treePart(api.KTrue)) }
	keyIn := func(i int) branch {
		return treePart(api.KIn, holding(api.KText, fmt.Sprint("k", i), 0), holding(api.KKeys, "", int(api.OfNode)))
	}
	set := func(i int) branch {
		elements := spreadTree(64, func(j int) branch { return holding(api.KNum, "", i+j) })
		return treePart(api.KIn, holding(api.KCap, "cpu", int(api.OfNode)), treePart(api.KSet, elements...))
	}
	chain := tolerated
	for i := range 31 { // parentheses round each KOr
		chain = treePart(api.KAnd, append(spreadTree(14, func(j int) branch { return nearOf(i*14 + j) }), treePart(api.KOr, apartOf(i), chain))...)
	}
	for i, b := range []branch{
		treePart(api.KAnd, slices.Repeat([]branch{tolerated}, 999)...),
		treePart(api.KOr, spreadTree(499, nearOf)...),
		treePart(api.KOr, spreadTree(499, func(i int) branch { return []branch{nearOf(i / 4), apartOf(i / 4)}[i%2] })...),
		treePart(api.KAnd, spreadTree(333, keyIn)...),
		treePart(api.KAnd, spreadTree(333, func(i int) branch { return keyIn(i / 3) })...),
		treePart(api.KAnd, spreadTree(249, func(i int) branch { return treePart(api.KNot, keyIn(i/2)) })...),
		treePart(api.KOr, spreadTree(14, set)...),
		treePart(api.KAnd, spreadTree(199, func(i int) branch { return treePart(api.KOr, nearOf(i%9), apartOf(i%7)) })...),
		chain,
	} {
		tree := treeOf(b)
		p, e := norm.Plan(tree, api.OfNode)
		if e != api.OK || len(tree.Parts) < 930 {
			t.Fatalf("tree %d: %d, %d parts", i, e, len(tree.Parts))
		}
		merged, plain := dagsOfPlan(t, p)
		check(t, merged)
		check(t, plain)
	}
}
