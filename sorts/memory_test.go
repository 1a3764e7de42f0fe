package sorts_test

import (
	"slices"
	"sync"
	"testing"

	"berth/api"
	"berth/sorts"
)

// wide are trees of all kinds: those that are taken, one for each fault, and those that layer 13 refuses.
func wide() []api.Tree {
	out := []api.Tree{
		list(not(and(or(yes, in(name(node), set(text("a"), text("b")))), equal(integer(label(pod, "x")), count("z", equal(name(it), text("c"))))))),
		list(or(many(600, yes)...)),
	}
	for _, s := range conditionSamples {
		out = append(out, list(s.twig))
	}
	for _, f := range faulty {
		out = append(out, list(f.twig))
	}
	for _, c := range invalid() {
		out = append(out, c.tree)
	}
	return out
}

// roomy is a copy of a tree whose lists have spare room, which is filled with what no call may touch.
func roomy(tree api.Tree) api.Tree {
	const more = 3
	parts := make([]api.Part, 0, len(tree.Parts)+more)
	for _, part := range tree.Parts {
		kids := append(slices.Clone(part.Kids), 77, 78, 79)
		part.Kids = kids[:len(part.Kids)]
		parts = append(parts, part)
	}
	for i := range more {
		parts = append(parts, api.Part{Kind: 77, Text: "spare", Num: i, Kids: []int{77}})
	}
	return api.Tree{Parts: parts[:len(tree.Parts)]}
}

// spare is all that stands in a tree's lists, their spare room too.
func spare(tree api.Tree) []api.Part {
	parts := slices.Clone(tree.Parts[:cap(tree.Parts)])
	for i := range parts {
		parts[i].Kids = slices.Clone(parts[i].Kids[:cap(parts[i].Kids)])
	}
	return parts
}

func sameParts(a, b []api.Part) bool {
	return slices.EqualFunc(a, b, func(x, y api.Part) bool {
		return x.Kind == y.Kind && x.Text == y.Text && x.Num == y.Num && slices.Equal(x.Kids, y.Kids)
	})
}

// P14.4, R6: the tree that is handed in stays as it is, spare room included.
func TestTreesStayAsTheyAre(t *testing.T) {
	for _, tree := range wide() {
		for _, scope := range []api.Side{api.OfNode, api.OfIt, api.OfPod} {
			handed := roomy(tree)
			before := spare(handed)
			check(t, handed, scope)
			if !sameParts(handed.Parts, tree.Parts) || !sameParts(spare(handed), before) {
				t.Errorf("%s was changed", toldTree(tree))
			}
		}
	}
}

// P14.4, R6, R9: nothing of a tree is kept: written over, it changes neither what was answered nor what is answered later.
func TestNothingIsKept(t *testing.T) {
	for _, tree := range wide() {
		for _, scope := range both {
			want, fault := model(tree, scope)
			handed := roomy(tree)
			types, err := sorts.Check(handed, scope)
			for i := range handed.Parts {
				for j := range handed.Parts[i].Kids {
					handed.Parts[i].Kids[j] = 0
				}
				handed.Parts[i] = api.Part{Kind: api.KFalse}
			}
			if !slices.Equal(types, want) || !sameFault(err, fault) {
				t.Errorf("the answer has changed to %s, %v", toldTypes(types), err)
			}
			check(t, handed, scope)
			expect(t, roomy(tree), scope, want, fault)
		}
	}
}

// P14.4, R6: the types are new memory, spare room too: written over, they change no other answer.
func TestTypesAreNew(t *testing.T) {
	for _, tree := range wide() {
		for _, scope := range both {
			want, fault := model(tree, scope)
			first, _ := sorts.Check(tree, scope)
			second, _ := sorts.Check(tree, scope)
			for i := range first[:cap(first)] {
				first[:cap(first)][i] = api.Type{Sort: 77, Side: 77}
			}
			if !slices.Equal(second, want) || slices.Contains(second[:cap(second)], api.Type{Sort: 77, Side: 77}) {
				t.Errorf("two answers to %s share memory", toldTree(tree))
			}
			expect(t, tree, scope, want, fault)
		}
	}
}

// R2, R6: a fault and its cause are new each time.
func TestFaultsAreNew(t *testing.T) {
	for _, tree := range wide() {
		for _, scope := range []api.Side{api.OfNode, api.OfIt, 0} {
			want, fault := model(tree, scope)
			for range 2 {
				_, err := sorts.Check(tree, scope)
				if f, ok := err.(*api.Fault); ok {
					if cause, ok := f.Cause.(*api.Fault); ok {
						*cause = api.Fault{Code: api.ErrNil, At: 78}
					}
					*f = api.Fault{Code: api.ErrNil, At: 77, Name: "x", Cause: api.ErrNil}
				}
				expect(t, tree, scope, want, fault)
			}
		}
	}
}

// R5: kids that are nil or empty mean the same, and so do parts.
func TestEmptyKids(t *testing.T) {
	for _, tree := range wide() {
		for _, scope := range both {
			want, fault := model(tree, scope)
			for _, none := range [][]int{nil, {}} {
				other := api.Tree{Parts: slices.Clone(tree.Parts)}
				for i := range other.Parts {
					if len(other.Parts[i].Kids) == 0 {
						other.Parts[i].Kids = none
					}
				}
				expect(t, other, scope, want, fault)
			}
		}
	}
}

// R9: an answer hangs on the tree and the scope alone: not on what was asked before, nor on what is asked at the same time of the same tree.
func TestAnswersHangOnTheTree(t *testing.T) {
	trees := wide()
	var all sync.WaitGroup
	for k := range 8 {
		all.Go(func() {
			for i := range 200 {
				tree, scope := trees[(i*(k+1)+k)%len(trees)], both[i%2]
				want, fault := model(tree, scope)
				types, err := sorts.Check(tree, scope)
				if !slices.Equal(types, want) || !sameFault(err, fault) {
					t.Errorf("%s: %s, %v", toldTree(tree), toldTypes(types), err)
				}
			}
		})
	}
	all.Wait()
}
