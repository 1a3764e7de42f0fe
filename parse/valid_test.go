package parse_test

import (
	"slices"
	"testing"

	"berth/api"
)

const (
	conditions = 1 + iota
	terms
	elements
)

// form is what chapter 13's table says of a kind: how many kids and of which class, and the bounds of Num; whether it has a Text.
type form struct {
	class      int
	kids       int
	least      int
	most       int
	text       bool
	low, above int
}

var forms = map[api.Kind]form{
	api.KTrue:      {class: conditions},
	api.KFalse:     {class: conditions},
	api.KNot:       {class: conditions, kids: conditions, least: 1, most: 1},
	api.KAnd:       {class: conditions, kids: conditions, least: 2, most: 1000},
	api.KOr:        {class: conditions, kids: conditions, least: 2, most: 1000},
	api.KCmp:       {class: conditions, kids: terms, least: 2, most: 2, low: 1, above: 6},
	api.KIn:        {class: conditions, kids: terms, least: 2, most: 2, above: 1},
	api.KNear:      {class: conditions, kids: conditions, least: 1, most: 1, text: true},
	api.KApart:     {class: conditions, kids: conditions, least: 1, most: 1, text: true},
	api.KTolerated: {class: conditions, text: true},
	api.KText:      {class: elements, text: true},
	api.KNum:       {class: elements, low: -999999999999999999, above: 999999999999999999},
	api.KSet:       {class: terms, kids: elements, most: 64},
	api.KLabel:     {class: terms, text: true, low: 1, above: 3},
	api.KName:      {class: terms, low: 1, above: 3},
	api.KKeys:      {class: terms, low: 1, above: 3},
	api.KTaints:    {class: terms, low: 1, above: 3},
	api.KCap:       {class: terms, text: true, low: 1, above: 3},
	api.KInt:       {class: terms, kids: terms, least: 1, most: 1},
	api.KCount:     {class: terms, kids: conditions, least: 1, most: 1, text: true},
}

// checkValid: whether a tree is valid by chapter 13, but for its nest.
func checkValid(t *testing.T, source string, tree api.Tree) {
	t.Helper()
	var left []int // the parts that are nobody's kids yet
	for i, part := range tree.Parts {
		f, known := forms[part.Kind]
		n := len(part.Kids)
		if !known || n < f.least || n > f.most || part.Num < f.low || part.Num > f.above || len(part.Text) > 127 || !f.text && part.Text != "" {
			t.Fatalf("Parse(%q): part %d, %v, isn't valid", show(source), i, part)
		}
		if n > len(left) || !slices.Equal(part.Kids, left[len(left)-n:]) {
			t.Fatalf("Parse(%q): part %d, %v, isn't in postorder", show(source), i, part)
		}
		for _, kid := range part.Kids {
			if class := forms[tree.Parts[kid].Kind].class; class != f.kids && !(class == elements && f.kids == terms) {
				t.Fatalf("Parse(%q): part %d, %v, has a kid of the wrong class", show(source), i, part)
			}
		}
		left = append(left[:len(left)-n], i)
	}
	if len(left) != 1 || len(tree.Parts) > 1000 || forms[tree.Parts[left[0]].Kind].class != conditions {
		t.Fatalf("Parse(%q): the tree has the parts %v left, of %d", show(source), left, len(tree.Parts))
	}
}

// nests: the nest of each part in the tree's text, by chapter 13: from the whole down to its parts.
func nests(tree api.Tree) []int {
	out := make([]int, len(tree.Parts))
	for i, part := range slices.Backward(tree.Parts) {
		for _, kid := range part.Kids {
			k := tree.Parts[kid].Kind
			out[kid] = out[i]
			switch part.Kind {
			case api.KNot, api.KNear, api.KApart, api.KCount, api.KInt:
				out[kid]++
			}
			row := k == api.KAnd || k == api.KOr
			if (part.Kind == api.KNot || part.Kind == api.KAnd) && row || part.Kind == api.KOr && k == api.KOr {
				out[kid]++
			}
		}
	}
	return out
}
