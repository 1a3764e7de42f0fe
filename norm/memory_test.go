package norm_test

import (
	"fmt"
	"slices"
	"sync"
	"testing"

	"berth/api"
	"berth/norm"
)

// wide are trees of all kinds: such as are taken in a scope, and such as are refused.
func wide(t *testing.T) []api.Tree {
	t.Helper()
	out := []api.Tree{
		read(t, `node.name in {"c", "a", "b", "a"} && int(node["gen"]) notin {7, 3, 7}`),
		read(t, `"zone" in node.keys || "k" in node.taints || "b" in pod.keys`),
		read(t, `near("zone", it["app"] in {"web", "db", "db"}) && count("gen", "app" in it.keys) == int(pod["n"]) && near("zone", it["app"] in {"web", "db", "db"})`),
		read(t, `!(apart("zone", it.name == pod.name || it.name in {"b", "a"}) && tolerated("NoSchedule")) || node.cap("cpu") in {2, 1}`),
		read(t, `count("z", it["a"] in {"2", "1"} && true) in {4, 3} || count("z", it["a"] in {"2", "1"}) in {4, 3}`),
		read(t, `it.name in {"q", "p"} && !(int(it["n"]) in {2, 1} || "x" == "y")`),
		list(or(many(60, yes)...)),
	}
	for _, x := range slices.Concat(invalid(), senseless(api.OfNode)) {
		out = append(out, x.tree)
	}
	return out
}

// roomy is a copy of a list with spare room, which is filled with what no call may touch.
func roomy[T any](list []T, spare T) []T {
	return append(append([]T{}, list...), spare, spare, spare)[:len(list)]
}

func roomyTree(tree api.Tree) api.Tree {
	list := roomy(tree.Parts, api.Part{Kind: 77, Text: "spare", Kids: []int{77}})
	for i := range list {
		list[i].Kids = roomy(list[i].Kids, 77)
	}
	return api.Tree{Parts: list}
}

// wholeTree is a tree with all that stands in its lists, spare room too, as a text.
func wholeTree(tree api.Tree) string {
	out := ""
	for _, part := range tree.Parts[:cap(tree.Parts)] {
		out += fmt.Sprintf("%v %q %d %v;", part.Kind, part.Text, part.Num, part.Kids[:cap(part.Kids)])
	}
	return out
}

func roomyPlan(p api.Plan) api.Plan {
	spare := lit(tol("spare"))
	each := func(list []api.PlanPart) []api.PlanPart {
		out := roomy(list, spare)
		for i := range out {
			out[i].Kids, out[i].Lit.Texts, out[i].Lit.Nums = roomy(out[i].Kids, 77), roomy(out[i].Lit.Texts, "spare"), roomy(out[i].Lit.Nums, 77)
		}
		return out
	}
	out := api.Plan{Main: each(p.Main), Sels: roomy(p.Sels, []api.PlanPart{spare})}
	for i := range out.Sels {
		out.Sels[i] = each(out.Sels[i])
	}
	return out
}

// wholePlan is a plan with all that stands in its lists, spare room too, as a text.
func wholePlan(p api.Plan) string {
	out := ""
	for _, list := range append([][]api.PlanPart{p.Main}, p.Sels[:cap(p.Sels)]...) {
		out += fmt.Sprint(len(list), ":")
		for _, part := range list[:cap(list)] {
			texts, nums := part.Lit.Texts, part.Lit.Nums
			out += fmt.Sprintf("%+v %v %q %v;", part, part.Kids[:cap(part.Kids)], texts[:cap(texts)], nums[:cap(nums)])
		}
	}
	return out
}

// R6: the tree stays as it is, spare room included.
func TestTreesStayAsTheyAre(t *testing.T) {
	for _, tree := range wide(t) {
		for _, scope := range append(noScopes, scopes...) {
			handed := roomyTree(tree)
			was := wholeTree(handed)
			check(t, handed, scope)
			if wholeTree(handed) != was {
				t.Errorf("%s was changed", toldTree(tree))
			}
		}
	}
}

// R6: so does the plan that Valid is asked about, be it valid or not.
func TestPlansStayAsTheyAre(t *testing.T) {
	var plans []api.Plan
	for _, tree := range wide(t) {
		for _, scope := range scopes {
			p, _ := norm.Plan(tree, scope)
			plans = append(plans, p, with(p, p.Main, p.Main), plan(slices.Concat(p.Main, p.Main, []api.PlanPart{join(api.PAnd, 1, 0)})...))
		}
	}
	plans = append(plans, plan(lit(inTexts(nameTerm(api.OfPod), "b", "a", "b"))), plan(lit(inNums(capTerm("a"), 2, 1, 2))))
	for _, p := range plans {
		handed := roomyPlan(p)
		was := wholePlan(handed)
		checkValid(t, handed)
		if wholePlan(handed) != was {
			t.Errorf("%s was changed", toldPlan(p))
		}
	}
}

// overwriteTree writes over all that stands in a tree.
func overwriteTree(tree api.Tree) {
	for i := range tree.Parts {
		for j := range tree.Parts[i].Kids {
			tree.Parts[i].Kids[j] = 0
		}
		tree.Parts[i] = api.Part{Kind: api.KFalse}
	}
}

// R6, R9: what is written into a tree later changes neither what was answered nor what is answered of the tree as it was.
func TestNothingIsKept(t *testing.T) {
	for _, tree := range wide(t) {
		for _, scope := range scopes {
			want, code := norm.Plan(tree, scope)
			handed := roomyTree(tree)
			p, e := norm.Plan(handed, scope)
			overwriteTree(handed)
			if e != code || !samePlan(p, want) {
				t.Errorf("the answer has changed to %s, %d", toldPlan(p), e)
			}
			check(t, handed, scope)
			check(t, tree, scope)
		}
	}
}

// memory knows the address of each element of each list that it has been told of, spare room too.
type memory map[any]bool

// tell: whether no element of a list was known.
func tell[T any](m memory, list []T) bool {
	fresh := true
	all := list[:cap(list)]
	for i := range all {
		fresh = fresh && !m[&all[i]]
		m[&all[i]] = true
	}
	return fresh
}

func (m memory) tree(tree api.Tree) bool {
	fresh := tell(m, tree.Parts)
	for _, part := range tree.Parts {
		fresh = tell(m, part.Kids) && fresh
	}
	return fresh
}

func (m memory) plan(p api.Plan) bool {
	fresh := tell(m, p.Sels)
	for _, list := range append([][]api.PlanPart{p.Main}, p.Sels...) {
		fresh = tell(m, list) && fresh
		for _, part := range list {
			texts, nums := tell(m, part.Lit.Texts), tell(m, part.Lit.Nums)
			fresh = tell(m, part.Kids) && texts && nums && fresh
		}
	}
	return fresh
}

// R6: the lists of an answer are new memory, spare room too: no two of them, no argument and no other answer have an element in one place.
func TestAnswersAreNew(t *testing.T) {
	for _, tree := range wide(t) {
		for _, scope := range scopes {
			m, handed := memory{}, roomyTree(tree)
			m.tree(handed)
			for range 3 {
				p, e := norm.Plan(handed, scope)
				if !m.plan(p) {
					t.Errorf("an answer of %s shares memory: %s, %d", toldTree(tree), toldPlan(p), e)
				}
			}
		}
	}
}

// R5: lists that are nil or empty mean the same.
func TestEmptyLists(t *testing.T) {
	for _, tree := range wide(t) {
		other := api.Tree{Parts: slices.Clone(tree.Parts)}
		for i := range other.Parts {
			if len(other.Parts[i].Kids) == 0 {
				other.Parts[i].Kids = []int{}
			}
		}
		for _, scope := range scopes {
			first, code := check(t, tree, scope)
			second, other := check(t, other, scope)
			if code != other || !samePlan(first, second) {
				t.Errorf("%s: %s, then %s", toldTree(tree), toldPlan(first), toldPlan(second))
			}
		}
	}
}

// R9: an answer hangs on the arguments alone: not on what was asked before, nor on what is asked at the same time.
func TestAnswersHangOnTheArguments(t *testing.T) {
	trees := wide(t)
	want := make([]string, len(trees))
	for i, tree := range trees {
		p, e := norm.Plan(tree, api.OfNode)
		want[i] = fmt.Sprint(toldPlan(p), e, norm.Valid(p))
	}
	var all sync.WaitGroup
	for k := range 8 {
		all.Go(func() {
			for i := range 300 {
				at := (i*(k+1) + k) % len(trees)
				p, e := norm.Plan(trees[at], api.OfNode)
				if got := fmt.Sprint(toldPlan(p), e, norm.Valid(p)); got != want[at] {
					t.Errorf("%s: %s, want %s", toldTree(trees[at]), got, want[at])
				}
			}
		})
	}
	all.Wait()
}
