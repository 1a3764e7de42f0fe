package show_test

import (
	"slices"
	"strings"
	"sync"
	"testing"

	"berth/api"
	"berth/show"
)

// wide are trees of all sorts: valid ones, one whose text is too long, and one for each fault.
func wide() []api.Tree {
	deep := or(yes, no)
	for range 33 {
		deep = not(deep)
	}
	out := []api.Tree{
		list(not(and(or(yes, in(name(node), set(text("a"), num(2)))), equal(integer(label(pod, "x")), count("z", near("y", no)))))),
		list(or(many(600, yes)...)),
		list(deep),
		parts(plain(api.KTrue), plain(api.KTrue)),
		parts(plain(api.KTrue), plain(api.KNot, 0), plain(api.KNot, 0)),
		list(or(many(1001, yes)...)),
		{},
	}
	for _, s := range conditionSamples {
		out = append(out, list(s.twig))
	}
	for _, f := range faulty {
		out = append(out, api.Tree{Parts: f.parts})
	}
	return out
}

// roomy is a copy of a tree whose lists have spare room, which is filled with what no call may touch.
func roomy(tree api.Tree) api.Tree {
	const more = 3
	parts := make([]api.Part, 0, len(tree.Parts)+more)
	for _, part := range tree.Parts {
		kids := append(slices.Clone(part.Kids), 77, 78, 79)
		part.Kids = kids[:len(part.Kids)]
		parts = append(parts, part)
	}
	for i := range more {
		parts = append(parts, api.Part{Kind: 77, Text: "spare", Num: i, Kids: []int{77}})
	}
	return api.Tree{Parts: parts[:len(tree.Parts)]}
}

// spare is all that stands in a tree's lists, their spare room too.
func spare(tree api.Tree) []api.Part {
	parts := slices.Clone(tree.Parts[:cap(tree.Parts)])
	for i := range parts {
		parts[i].Kids = slices.Clone(parts[i].Kids[:cap(parts[i].Kids)])
	}
	return parts
}

// R6: the tree that is handed in stays as it is, spare room included.
func TestTreesStayAsTheyAre(t *testing.T) {
	for _, tree := range wide() {
		handed := roomy(tree)
		before := spare(handed)
		check(t, handed)
		if !sameTree(handed, tree) || !sameTree(api.Tree{Parts: spare(handed)}, api.Tree{Parts: before}) {
			t.Errorf("%s was changed", told(tree))
		}
	}
}

// R6, R9: nothing of a tree is kept: written over, it changes neither what was answered nor what is answered later.
func TestNothingIsKept(t *testing.T) {
	for _, tree := range wide() {
		nest, text, invalid, silent := model(tree)
		handed := roomy(tree)
		s, err := show.Text(handed)
		again := roomy(tree)
		for i := range handed.Parts {
			for j := range handed.Parts[i].Kids {
				handed.Parts[i].Kids[j] = 0
			}
			handed.Parts[i] = api.Part{Kind: api.KFalse}
		}
		if s != text || !sameFault(err, silent) {
			t.Errorf("the answer %q, %v has changed to that", cut(s), err)
		}
		check(t, handed)
		expect(t, again, nest, text, invalid, silent)
	}
}

// R2, R6: a fault is new each time, of each call.
func TestFaultsAreNew(t *testing.T) {
	for _, tree := range wide() {
		nest, text, invalid, silent := model(tree)
		for range 2 {
			_, a := show.Nest(tree)
			_, b := show.Text(tree)
			for _, err := range []error{show.Valid(tree), a, b} {
				if err != nil {
					*err.(*api.Fault) = api.Fault{Code: api.ErrNil, At: 77, Name: "x", Cause: api.ErrNil}
				}
			}
			expect(t, tree, nest, text, invalid, silent)
		}
	}
}

// R5: kids that are nil or empty mean the same.
func TestEmptyKids(t *testing.T) {
	for _, s := range slices.Concat(conditionSamples, termSamples) {
		tree := list(s.twig)
		if chapterTable[s.twig.part.Kind].letter != "c" {
			tree = list(equal(s.twig, num(1)))
		}
		nest, text, invalid, silent := model(tree)
		for i := range tree.Parts {
			if tree.Parts[i].Kids == nil {
				tree.Parts[i].Kids = []int{}
			}
		}
		expect(t, tree, nest, text, invalid, silent)
	}
}

// R9: an answer hangs on the tree alone: not on what was asked before, nor on what is asked at the same time of the same tree.
func TestAnswersHangOnTheTree(t *testing.T) {
	trees := wide()
	var all sync.WaitGroup
	for k := range 8 {
		all.Go(func() {
			for i := range 60 {
				tree := trees[(i*(k+1)+k)%len(trees)]
				nest, text, invalid, silent := model(tree)
				n, err := show.Nest(tree)
				s, fault := show.Text(tree)
				if n != nest || !sameFault(err, invalid) || s != text || !sameFault(fault, silent) || !sameFault(show.Valid(tree), invalid) {
					t.Errorf("%s: %d, %v; %q, %v", told(tree), n, err, cut(s), fault)
				}
			}
		})
	}
	all.Wait()
}

// P1: what no tree has: great lists of kids, great texts, many parts, a chain of a thousand.
func TestGreatArguments(t *testing.T) {
	great := make([]int, 1<<20)
	for i := range great {
		great[i] = i - 1
	}
	expectFault(t, parts(plain(api.KAnd, great...)), api.ErrTree, 0)
	expectFault(t, parts(plain(api.KTrue), plain(api.KAnd, great[1:]...)), api.ErrTree, 1)
	expectFault(t, parts(full(api.KTolerated, strings.Repeat("a", 1<<20), 0)), api.ErrTree, 0)
	expectFault(t, parts(make([]api.Part, 1<<17)...), api.ErrTree, 1000)
	chain := parts(plain(api.KTrue))
	for i := range 999 {
		chain.Parts = append(chain.Parts, plain(api.KNot, i))
	}
	expectFault(t, chain, api.ErrNest, 0)
	chain.Parts = append(chain.Parts, plain(api.KNot, 999))
	expectFault(t, chain, api.ErrTree, 1000)
}
