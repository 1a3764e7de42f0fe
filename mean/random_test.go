package mean_test

import (
	"math"
	"slices"
	"testing"

	"berth/api"
	"berth/parse"
	"berth/show"
)

// P15.1, P15.3 to P15.5: random trees over random clusters for raw pods.
func TestRandomTrees(t *testing.T) {
	answers := map[string]int{}
	for slips := range 4 {
		c := newChance(uint64(slips), slips)
		for range 300 {
			cl, p := c.cluster(t, 8, 12), c.rawPod()
			for range 4 {
				names, fault := check(t, cl, list(c.condition(api.OfNode, c.IntN(6))), p)
				switch {
				case fault != nil:
					answers["refused"]++
				case len(names) == 0:
					answers["none"]++
				case len(names) < len(cl.Nodes()):
					answers["some"]++
				default:
					answers["all"]++
				}
			}
		}
	}
	for _, each := range []string{"refused", "none", "some", "all"} {
		if answers[each] < 500 {
			t.Errorf("only %d answers: %s", answers[each], each)
		}
	}
}

// P15.2: random selectors at random pods.
func TestRandomSelectors(t *testing.T) {
	c := newChance(100, 1)
	answers := map[string]int{}
	for range 8000 {
		selects, fault := checkSelects(t, list(c.condition(api.OfIt, c.IntN(5))), c.rawPod(), c.rawPod())
		switch {
		case fault != nil:
			answers["refused"]++
		case selects:
			answers["yes"]++
		default:
			answers["no"]++
		}
	}
	for _, each := range []string{"refused", "yes", "no"} {
		if answers[each] < 500 {
			t.Errorf("only %d answers: %s", answers[each], each)
		}
	}
}

// P15.3: random trees come out of their texts with the same meaning.
func TestRandomSources(t *testing.T) {
	c := newChance(200, 0)
	for range 500 {
		cl, p := c.cluster(t, 6, 8), c.rawPod()
		tree := list(c.taken(api.OfNode, 5))
		source, err := show.Text(tree)
		if err != nil {
			continue
		}
		again, _, err := parse.Parse(source)
		if err != nil {
			t.Fatal(source, err)
		}
		first, _ := check(t, cl, tree, p)
		second, _ := check(t, cl, again, p)
		if !slices.Equal(first, second) {
			t.Fatalf("%s: %v, %v", source, first, second)
		}
	}
}

// spoiled is a tree with one thing changed by chance.
func spoiled(c chance, tree api.Tree) api.Tree {
	out := api.Tree{Parts: slices.Clone(tree.Parts)}
	n := len(out.Parts)
	at := c.IntN(n)
	some := one(c, -1, 0, 1, 2, 3, 4, 7, at, at-1, at+1, n-1, n, math.MaxInt, math.MinInt)
	part := &out.Parts[at]
	part.Kids = slices.Clone(part.Kids)
	switch c.IntN(7) {
	case 0:
		part.Kind = api.Kind(c.IntN(23) - 1)
	case 1:
		part.Num = some
	case 2:
		part.Text = one(c, "", "x", "a b", "cpu", "NoExecute", "zone")
	case 3:
		part.Kids = append(part.Kids, some)
	case 4:
		if len(part.Kids) > 0 {
			part.Kids[c.IntN(len(part.Kids))] = some
		}
	case 5:
		out.Parts = slices.Delete(out.Parts, at, at+1)
	case 6:
		out.Parts = append(out.Parts, out.Parts[at])
	}
	return out
}

// P1, R2: random trees with one, two and three things changed, and lists of parts that are nothing but chance.
func TestSpoiledTrees(t *testing.T) {
	c := newChance(300, 1)
	answers := map[bool]int{}
	for range 1500 {
		cl, p := c.cluster(t, 3, 4), c.rawPod()
		tree := list(c.condition(api.OfNode, c.IntN(5)))
		for range 3 {
			if tree = spoiled(c, tree); len(tree.Parts) == 0 {
				break
			}
			_, fault := check(t, cl, tree, p)
			answers[fault == nil]++
			checkSelects(t, tree, p, c.rawPod())
		}
		any := make([]api.Part, c.IntN(6))
		for i := range any {
			kids := make([]int, c.IntN(3))
			for j := range kids {
				kids[j] = one(c, c.IntN(6), i-1, i-len(kids)+j, int(c.Uint64()))
			}
			any[i] = api.Part{Kind: api.Kind(c.IntN(24) - 1), Num: one(c, 0, 1, c.IntN(9)-1, int(c.Uint64())), Text: one(c, "", "", "a"), Kids: kids}
		}
		check(t, cl, parts(any...), p)
		checkSelects(t, parts(any...), p, p)
	}
	if answers[true] < 200 || answers[false] < 1000 {
		t.Errorf("answers: %v", answers)
	}
}
