package show_test

import (
	"math"
	"math/rand/v2"
	"slices"
	"testing"

	"berth/api"
	"berth/show"
)

// fewParts are parts without their kids, right in all that they hold themselves.
var fewParts = []api.Part{
	{Kind: api.KTrue}, {Kind: api.KNot}, {Kind: api.KAnd}, {Kind: api.KOr}, {Kind: api.KCmp, Num: 1}, {Kind: api.KNear, Text: "a"},
	{Kind: api.KNum, Num: 1}, {Kind: api.KSet}, {Kind: api.KInt}, {Kind: api.KCount, Text: "b"},
}

// kidLists are all lists of up to most places from low to high.
func kidLists(low, high, most int) [][]int {
	out := [][]int{nil}
	for from := 0; from < len(out); from++ {
		if len(out[from]) == most {
			continue
		}
		for kid := low; kid <= high; kid++ {
			out = append(out, append(slices.Clone(out[from]), kid))
		}
	}
	return out
}

// P13.1: every list of up to three of a few parts with every list of up to two kids.
func TestEveryShortList(t *testing.T) {
	var grow func(list []api.Part, most int)
	grow = func(list []api.Part, most int) {
		check(t, api.Tree{Parts: list})
		if len(list) == most {
			return
		}
		for _, part := range fewParts {
			for _, kids := range kidLists(0, len(list), 2) {
				if len(list) == 0 && len(kids) == 2 {
					continue
				}
				part.Kids = kids
				grow(append(slices.Clip(list), part), most)
			}
		}
	}
	grow(nil, 3)
}

// P13.1 to P13.4: lists of up to seven parts of which only the last may bar: the first four with every list of up to three kids, the fifth of up to two, the others with the kids that postorder asks for alone; no two of the valid ones have one text.
func TestEveryListThatGrows(t *testing.T) {
	trees := map[string]api.Tree{}
	few := []api.Part{{Kind: api.KTrue}, {Kind: api.KNot}, {Kind: api.KAnd}, {Kind: api.KOr}, {Kind: api.KIn, Num: 1}, {Kind: api.KText, Text: "a"}, {Kind: api.KSet}, {Kind: api.KCount}}
	var grow func(list []api.Part)
	grow = func(list []api.Part) {
		tree := api.Tree{Parts: list}
		check(t, tree)
		if text, err := show.Text(tree); err == nil {
			if other, has := trees[text]; has {
				t.Fatalf("%q is the text of %s and of %s", text, told(other), told(tree))
			}
			trees[text] = api.Tree{Parts: slices.Clone(list)}
		}
		if f := modelTree(tree); len(list) == 7 || f != nil && !growing(list) {
			return
		}
		kids := kidLists(0, len(list)-1, 2)
		if len(list) < 4 {
			kids = kidLists(-1, len(list)+1, 3)
		} else if len(list) > 4 {
			kids = fitting(list)
		}
		for _, part := range few {
			for _, these := range kids {
				part.Kids = these
				grow(append(slices.Clip(list), part))
			}
		}
	}
	grow(nil)
	if len(trees) < 1000 {
		t.Errorf("only %d valid trees", len(trees))
	}
}

// growing: whether nothing in a list bars, so that it may become a tree by more parts.
func growing(list []api.Part) bool {
	first := make([]int, len(list))
	for i, part := range list {
		if first[i] = firstOf(first, i, part.Kids); first[i] < 0 || !holds(api.Tree{Parts: list}, part) {
			return false
		}
	}
	return true
}

// fitting are the lists of kids that postorder asks for behind a list that is growing.
func fitting(list []api.Part) [][]int {
	first := make([]int, len(list))
	for i, part := range list {
		first[i] = firstOf(first, i, part.Kids)
	}
	out := [][]int{nil}
	var kids []int
	for at := len(list); at > 0; at = first[at-1] {
		kids = append([]int{at - 1}, kids...)
		out = append(out, slices.Clone(kids))
	}
	return out
}

// spoiled is a tree with one thing changed by chance.
func spoiled(r *rand.Rand, tree api.Tree) api.Tree {
	n := len(tree.Parts)
	at := r.IntN(n)
	ends := []int{-1, 0, 1, 2, 3, 6, 7, at, at - 1, at + 1, n - 1, n, greatest + 1, -greatest - 1, math.MaxInt, math.MinInt}
	some := ends[r.IntN(len(ends))]
	out := changed(tree, at, func(part *api.Part) {
		switch r.IntN(6) {
		case 0:
			part.Kind = api.Kind(r.IntN(23) - 1)
		case 1:
			part.Num = some
		case 2:
			part.Text = []string{"", "x", string(make([]byte, 127)), string(make([]byte, 128))}[r.IntN(4)]
		case 3:
			part.Kids = append(part.Kids, some)
		case 4:
			if len(part.Kids) > 0 {
				part.Kids[r.IntN(len(part.Kids))] = some
			}
		case 5:
			if len(part.Kids) > 1 {
				i := r.IntN(len(part.Kids) - 1)
				part.Kids[i], part.Kids[i+1] = part.Kids[i+1], part.Kids[i]
			}
		}
	})
	switch r.IntN(8) {
	case 0:
		out.Parts = slices.Delete(out.Parts, at, at+1)
	case 1:
		out.Parts = slices.Insert(out.Parts, at, out.Parts[r.IntN(n)])
	case 2:
		out.Parts = out.Parts[:at]
	case 3:
		out.Parts = append(out.Parts, fewParts[r.IntN(len(fewParts))])
	}
	return out
}

// P1, P13.1 to P13.3: random trees with one, two and three things changed.
func TestSpoiledTrees(t *testing.T) {
	r := rand.New(rand.NewPCG(13, 3))
	faults := map[api.Errno]int{}
	for range 4000 {
		tree := list(someCondition(r, r.IntN(8)))
		for range 3 {
			if tree = spoiled(r, tree); len(tree.Parts) == 0 {
				break
			}
			check(t, tree)
			if _, _, _, f := model(tree); f != nil {
				faults[f.Code]++
			} else {
				faults[api.OK]++
			}
		}
	}
	if faults[api.OK] < 500 || faults[api.ErrTree] < 4000 {
		t.Errorf("answers: %v", faults)
	}
}

// P13.1, P13.2: random trees near the limit of the nest, with one thing changed now and then.
func TestRandomNests(t *testing.T) {
	r := rand.New(rand.NewPCG(13, 4))
	faults := map[api.Errno]int{}
	for range 1500 {
		w := someCondition(r, 2)
		for range 12 + r.IntN(25) {
			w = shells[r.IntN(len(shells))].of(w)
		}
		if r.IntN(3) == 0 {
			w = or(someCondition(r, 3), w)
		}
		tree := list(w)
		if r.IntN(4) == 0 {
			tree = spoiled(r, tree)
		}
		if len(tree.Parts) == 0 {
			continue
		}
		check(t, tree)
		if _, _, _, f := model(tree); f != nil {
			faults[f.Code]++
		} else {
			faults[api.OK]++
		}
	}
	if faults[api.OK] < 300 || faults[api.ErrNest] < 300 {
		t.Errorf("answers: %v", faults)
	}
}

// P1: lists of parts that are nothing but chance.
func TestRandomParts(t *testing.T) {
	r := rand.New(rand.NewPCG(13, 5))
	for range 10000 {
		list := make([]api.Part, r.IntN(6))
		for i := range list {
			kids := make([]int, r.IntN(4))
			for j := range kids {
				kids[j] = []int{r.IntN(6), i - 1, i - len(kids) + j, int(r.Uint64())}[r.IntN(4)]
			}
			list[i] = api.Part{Kind: api.Kind(r.IntN(24) - 1), Num: []int{0, 1, r.IntN(9) - 1, int(r.Uint64())}[r.IntN(4)], Text: []string{"", "", "a", string(make([]byte, 127+r.IntN(2)))}[r.IntN(4)], Kids: kids}
		}
		check(t, api.Tree{Parts: list})
	}
}
