package merge_test

import (
	"slices"
	"testing"

	"berth/api"
	"berth/merge"
	"berth/norm"
)

func sameList(x, y []api.PlanPart) bool {
	return slices.EqualFunc(x, y, func(p, q api.PlanPart) bool {
		k, l := p.Lit, q.Lit
		same := k.Kind == l.Kind && k.Term == l.Term && k.Rel == l.Rel && k.Num == l.Num && k.Other == l.Other && k.Of == l.Of && k.Key == l.Key && k.Sel == l.Sel
		return p.Kind == q.Kind && p.Neg == q.Neg && same && slices.Equal(k.Texts, l.Texts) && slices.Equal(k.Nums, l.Nums) && slices.Equal(p.Kids, q.Kids)
	})
}

func samePlan(p, q api.Plan) bool {
	return sameList(p.Main, q.Main) && slices.EqualFunc(p.Sels, q.Sels, sameList)
}

// cost is what Cost answers of a valid plan.
func cost(p api.Plan) int {
	n := len(p.Main)
	for _, sel := range p.Sels {
		n += len(sel)
	}
	return n
}

// measure is the third point of the plans that are valid.
func measure(p api.Plan) int {
	n := cost(p)
	for _, list := range append([][]api.PlanPart{p.Main}, p.Sels...) {
		for _, part := range list {
			n += len(part.Lit.Texts) + len(part.Lit.Nums)
		}
	}
	return n
}

// check holds all promises but the meaning and the memory for a valid plan, and answers what Merge makes of it.
func check(t *testing.T, p api.Plan) api.Plan {
	t.Helper()
	return checkAgainst(t, p, modelPlan(p))
}

// checkAgainst is check with an answer that is known.
func checkAgainst(t *testing.T, p, want api.Plan) api.Plan {
	t.Helper()
	got, e := merge.Merge(p)
	if !norm.Valid(p) || e != api.OK || !samePlan(got, want) {
		t.Fatalf("Merge of %s\n= %s, %d,\nwant %s", short(p), short(got), e, short(want))
	}
	if !norm.Valid(got) {
		t.Fatalf("Merge of %s\n= %s: that isn't valid", short(p), short(got))
	}
	if merge.Cost(p) != cost(p) || merge.Cost(got) != cost(got) || cost(got) > cost(p) || measure(got) > measure(p) {
		t.Fatalf("%s costs %d (%d parts), merged %d (%d parts)", short(p), merge.Cost(p), cost(p), merge.Cost(got), cost(got))
	}
	if again, e := merge.Merge(got); e != api.OK || !samePlan(again, got) {
		t.Fatalf("Merge of %s\n= %s,\nthen %s, %d", short(p), short(got), short(again), e)
	}
	if fault := untidy(got); fault != "" {
		t.Fatalf("Merge of %s\n= %s: %s", short(p), short(got), fault)
	}
	return got
}

// untidy is what is wrong with a plan by P17.4.
func untidy(p api.Plan) string {
	used := map[int]bool{}
	for _, part := range p.Main {
		if part.Lit.Kind == api.LitNear {
			used[part.Lit.Sel] = true
		}
		if part.Lit.Term.Kind == api.TermCount {
			used[part.Lit.Term.Sel] = true
		}
	}
	sels := map[string]bool{}
	for i, sel := range p.Sels {
		sels[wording(grown(sel))] = true
		if !used[i] {
			return "a selector that isn't used"
		}
	}
	if len(sels) < len(p.Sels) {
		return "selectors that are alike"
	}
	for _, list := range append([][]api.PlanPart{p.Main}, p.Sels...) {
		if fault := untidyTwig(grown(list)); fault != "" {
			return fault
		}
	}
	return ""
}

func untidyTwig(w twig) string {
	seen := map[string]bool{}
	ranges, sets := map[api.Term]int{}, map[api.Term]int{}
	for _, kid := range w.kids {
		term := kid.part.Lit.Term
		if isRange(kid) {
			ranges[term]++
		}
		if kid.part.Lit.Kind == api.LitIn {
			sets[term]++
		}
		switch {
		case kid.part.Kind == w.part.Kind || kid.part.Kind == api.PTrue || kid.part.Kind == api.PFalse:
			return "a kid that is a constant or of its part's kind"
		case seen[wording(kid)]:
			return "kids that are alike"
		case kid.part.Kind == api.PLit && seen[wording(not(kid))]:
			return "literals alike but for the sign"
		case ranges[term] > 3 || sets[term] > 1:
			return "too many range literals of one term"
		}
		seen[wording(kid)] = true
		if fault := untidyTwig(kid); fault != "" {
			return fault
		}
	}
	return ""
}

// expect: what the rules make of a plan, and of the plan of its negation.
func expect(t *testing.T, p, want api.Plan) {
	t.Helper()
	if got := check(t, p); !samePlan(got, want) {
		t.Errorf("Merge of %s\n= %s,\nwant %s", short(p), short(got), short(want))
	}
	p.Main, want.Main = list(not(grown(p.Main))), list(not(grown(want.Main)))
	if got := check(t, p); !samePlan(got, want) {
		t.Errorf("Merge of %s\n= %s,\nwant %s", short(p), short(got), short(want))
	}
}

// same: a plan that stays as it is.
func same(t *testing.T, p api.Plan) {
	t.Helper()
	expect(t, p, p)
}
