package norm_test

import (
	"maps"
	"reflect"
	"regexp"
	"slices"
	"strconv"
	"testing"

	"berth/api"
	"berth/norm"
	"berth/show"
	"berth/sorts"
)

// thought is what a tree says, on its way to a plan: at first with negations anywhere, at last with none but on literals. op is true, false, not, and, or, lit; of is the selector of a literal.
type thought struct {
	op   string
	neg  bool
	kids []thought
	lit  api.Lit
	of   *thought
}

func sure(worth bool) thought { return thought{op: strconv.FormatBool(worth)} }

func opposite(w thought) thought { return thought{op: "not", kids: []thought{w}} }

// model reads a tree that layer 14 takes.
type model struct {
	parts []api.Part
	types []api.Type
}

// worth is what a constant is worth: a string, an int, or nil for what is undefined.
func (m model) worth(at int) any {
	part := m.parts[at]
	switch part.Kind {
	case api.KText:
		return part.Text
	case api.KNum:
		return part.Num
	}
	digits := m.parts[part.Kids[0]].Text
	if !regexp.MustCompile(`^(0|-?[1-9][0-9]{0,14})$`).MatchString(digits) {
		return nil
	}
	n, _ := strconv.Atoi(digits)
	return n
}

// term is a part that is no constant as a term of the plan, with a count's selector.
func (m model) term(at int) (api.Term, *thought) {
	part := m.parts[at]
	switch part.Kind {
	case api.KText:
		return api.Term{Kind: 1, Key: part.Text}, nil
	case api.KLabel:
		return api.Term{Kind: 2, Side: api.Side(part.Num), Key: part.Text}, nil
	case api.KName:
		return api.Term{Kind: 3, Side: api.Side(part.Num)}, nil
	case api.KInt:
		kid := m.parts[part.Kids[0]]
		return api.Term{Kind: 4, Side: api.Side(kid.Num), Key: kid.Text}, nil
	case api.KCap:
		return api.Term{Kind: 5, Key: part.Text}, nil
	case api.KCount:
		of := settled(m.read(part.Kids[0]), false)
		return api.Term{Kind: 6, Key: part.Text}, &of
	}
	panic("no term")
}

func (m model) fixed(at int) bool { return m.types[at].Side == api.Fixed }

// read is what a condition says, negations where they stand.
func (m model) read(at int) thought {
	part := m.parts[at]
	switch part.Kind {
	case api.KTrue, api.KFalse:
		return sure(part.Kind == api.KTrue)
	case api.KNot:
		return opposite(m.read(part.Kids[0]))
	case api.KAnd, api.KOr:
		out := thought{op: map[api.Kind]string{api.KAnd: "and", api.KOr: "or"}[part.Kind]}
		for _, kid := range part.Kids {
			out.kids = append(out.kids, m.read(kid))
		}
		return out
	case api.KApart:
		return opposite(m.near(part))
	case api.KNear:
		return m.near(part)
	case api.KTolerated:
		return thought{op: "lit", lit: api.Lit{Kind: 6, Key: part.Text}}
	case api.KIn:
		if part.Num == 1 {
			return opposite(m.in(part))
		}
		return m.in(part)
	}
	if part.Num == 2 {
		return opposite(m.cmp(part.Kids[0], 1, part.Kids[1]))
	}
	return m.cmp(part.Kids[0], api.Cmp(part.Num), part.Kids[1])
}

func (m model) near(part api.Part) thought {
	of := settled(m.read(part.Kids[0]), false)
	if of.op == "false" {
		return of
	}
	return thought{op: "lit", lit: api.Lit{Kind: 7, Key: part.Text}, of: &of}
}

// turnedRound by the numbers of the six: == != < <= > >=.
var turnedRound = []api.Cmp{0, 1, 2, 5, 6, 3, 4}

func (m model) cmp(left int, c api.Cmp, right int) thought {
	switch {
	case m.fixed(left) && m.fixed(right):
		a, b := m.worth(left), m.worth(right)
		if a == nil || b == nil {
			return sure(false)
		}
		if c == 1 {
			return sure(a == b)
		}
		x, y := a.(int), b.(int)
		return sure(c == 3 && x < y || c == 4 && x <= y || c == 5 && x > y || c == 6 && x >= y)
	case m.fixed(left):
		return m.cmp(right, turnedRound[c], left)
	case m.fixed(right):
		return m.bound(left, c, m.worth(right))
	case m.types[left].Side == api.OfPod && m.types[right].Side != api.OfPod:
		return m.cmp(right, turnedRound[c], left)
	}
	term, of := m.term(left)
	other, _ := m.term(right)
	return thought{op: "lit", lit: api.Lit{Kind: 3, Term: term, Rel: c, Other: other}, of: of}
}

// bound holds a term against a constant.
func (m model) bound(at int, c api.Cmp, worth any) thought {
	term, of := m.term(at)
	lit := api.Lit{Kind: 1, Term: term}
	switch worth := worth.(type) {
	case nil:
		return sure(false)
	case string:
		lit.Texts = []string{worth}
	case int:
		switch c {
		case 1:
			lit.Nums = []int{worth}
		case 3, 4:
			lit.Kind, lit.Rel, lit.Num = 2, 4, worth-map[api.Cmp]int{3: 1}[c]
		case 5, 6:
			lit.Kind, lit.Rel, lit.Num = 2, 6, worth+map[api.Cmp]int{5: 1}[c]
		}
	}
	return thought{op: "lit", lit: lit, of: of}
}

func (m model) in(part api.Part) thought {
	x, set := part.Kids[0], m.parts[part.Kids[1]]
	if set.Kind == api.KKeys || set.Kind == api.KTaints {
		term, _ := m.term(x)
		if set.Kind == api.KTaints {
			return thought{op: "lit", lit: api.Lit{Kind: 5, Term: term}}
		}
		return thought{op: "lit", lit: api.Lit{Kind: 4, Term: term, Of: api.Side(set.Num)}}
	}
	texts, nums, all := map[string]bool{}, map[int]bool{}, map[any]bool{}
	for _, kid := range set.Kids {
		switch worth := m.worth(kid).(type) {
		case string:
			texts[worth], all[worth] = true, true
		case int:
			nums[worth], all[worth] = true, true
		}
	}
	if m.fixed(x) {
		worth := m.worth(x)
		return sure(worth != nil && all[worth])
	}
	if len(all) == 0 {
		return sure(false)
	}
	term, of := m.term(x)
	return thought{op: "lit", lit: api.Lit{Kind: 1, Term: term, Texts: slices.Sorted(maps.Keys(texts)), Nums: slices.Sorted(maps.Keys(nums))}, of: of}
}

// settled brings negations down to the literals, and then takes out the constants.
func settled(w thought, neg bool) thought { return folded(pushed(w, neg)) }

func pushed(w thought, neg bool) thought {
	if w.op == "not" {
		return pushed(w.kids[0], !neg)
	}
	out := thought{op: w.op, neg: w.op == "lit" && neg, lit: w.lit, of: w.of}
	if neg && w.op != "lit" {
		out.op = map[string]string{"true": "false", "false": "true", "and": "or", "or": "and"}[w.op]
	}
	for _, kid := range w.kids {
		out.kids = append(out.kids, pushed(kid, neg))
	}
	return out
}

func folded(w thought) thought {
	if w.op != "and" && w.op != "or" {
		return w
	}
	all := map[string]int{}
	var left []thought
	for _, kid := range w.kids {
		kid = folded(kid)
		all[kid.op]++
		if kid.op != "true" && kid.op != "false" {
			left = append(left, kid)
		}
	}
	switch {
	case w.op == "and" && all["false"] > 0:
		return sure(false)
	case w.op == "or" && all["true"] > 0:
		return sure(true)
	case len(left) == 0:
		return sure(w.op == "and")
	case len(left) == 1:
		return left[0]
	}
	w.kids = left
	return w
}

// laid writes a thought down as a list; take is told each selector and answers its place.
func laid(w thought, take func(thought) int) []api.PlanPart {
	var list []api.PlanPart
	var lay func(w thought) int
	lay = func(w thought) int {
		part := api.PlanPart{Kind: map[string]api.PlanKind{"true": 1, "false": 2, "and": 3, "or": 4, "lit": 5}[w.op], Neg: w.neg, Lit: w.lit}
		for _, kid := range w.kids {
			part.Kids = append(part.Kids, lay(kid))
		}
		if w.of != nil && part.Lit.Kind == api.LitNear {
			part.Lit.Sel = take(*w.of)
		} else if w.of != nil {
			part.Lit.Term.Sel = take(*w.of)
		}
		list = append(list, part)
		return len(list) - 1
	}
	lay(w)
	return list
}

// modelPlan is the plan by the model.
func modelPlan(tree api.Tree, scope api.Side) (api.Plan, api.Errno) {
	if err := show.Valid(tree); err != nil {
		return api.Plan{}, err.(*api.Fault).Code
	}
	types, err := sorts.Check(tree, scope)
	if err != nil {
		return api.Plan{}, err.(*api.Fault).Code
	}
	var p api.Plan
	whole := settled(model{tree.Parts, types}.read(len(tree.Parts)-1), false)
	p.Main = laid(whole, func(of thought) int {
		p.Sels = append(p.Sels, laid(of, nil))
		return len(p.Sels) - 1
	})
	return p, api.OK
}

// taken: whether layers 13 and 14 take a tree.
func taken(tree api.Tree, scope api.Side) bool {
	_, err := sorts.Check(tree, scope)
	return err == nil
}

// plainList has nil in the place of empty lists.
func plainList(list []api.PlanPart) []api.PlanPart {
	out := slices.Clone(list)
	for i := range out {
		if len(out[i].Kids) == 0 {
			out[i].Kids = nil
		}
		if len(out[i].Lit.Texts) == 0 {
			out[i].Lit.Texts = nil
		}
		if len(out[i].Lit.Nums) == 0 {
			out[i].Lit.Nums = nil
		}
	}
	return out
}

func samePlan(p, q api.Plan) bool {
	same := func(a, b []api.PlanPart) bool { return reflect.DeepEqual(plainList(a), plainList(b)) }
	return same(p.Main, q.Main) && slices.EqualFunc(p.Sels, q.Sels, same)
}

// measure by the chapter's third point.
func measure(p api.Plan) int {
	n := 0
	for _, list := range append([][]api.PlanPart{p.Main}, p.Sels...) {
		for _, part := range list {
			n += 1 + len(part.Lit.Texts) + len(part.Lit.Nums)
		}
	}
	return n
}

// dual is a plan that says the contrary.
func dual(p api.Plan) api.Plan {
	out := api.Plan{Main: slices.Clone(p.Main), Sels: p.Sels}
	for i := range out.Main {
		part := &out.Main[i]
		part.Neg = part.Kind == api.PLit && !part.Neg
		part.Kind = []api.PlanKind{0, api.PFalse, api.PTrue, api.POr, api.PAnd, api.PLit}[part.Kind]
	}
	return out
}

// inverse is a tree with a KNot on top of it.
func inverse(tree api.Tree) api.Tree {
	n := len(tree.Parts)
	return api.Tree{Parts: append(slices.Clone(tree.Parts), api.Part{Kind: api.KNot, Kids: []int{n - 1}})}
}

// check holds Plan of a tree against the model, and what P16.2 and P16.4 say of it besides; it answers the plan or the number.
func check(t *testing.T, tree api.Tree, scope api.Side) (api.Plan, api.Errno) {
	t.Helper()
	want, code := modelPlan(tree, scope)
	p, e := norm.Plan(tree, scope)
	if e != code || !samePlan(p, want) {
		t.Fatalf("Plan(%s, %d) = %s, %d, want %s, %d", toldTree(tree), scope, toldPlan(p), e, toldPlan(want), code)
	}
	if e != api.OK {
		return p, e
	}
	if !norm.Valid(p) || len(broken(p, scope)) > 0 || measure(p) > len(tree.Parts) {
		t.Fatalf("Plan(%s, %d) = %s isn't valid: %v, its measure %d", toldTree(tree), scope, toldPlan(p), broken(p, scope), measure(p))
	}
	if against := inverse(tree); show.Valid(against) == nil {
		if q, e := norm.Plan(against, scope); e != api.OK || !samePlan(q, dual(p)) {
			t.Fatalf("Plan(!%s, %d) = %s, %d, want the dual of %s", toldTree(tree), scope, toldPlan(q), e, toldPlan(p))
		}
	}
	return p, e
}

// expect: the plan of a source is just this one.
func expect(t *testing.T, source string, scope api.Side, want string) {
	t.Helper()
	expectTree(t, read(t, source), scope, want)
}

func expectTree(t *testing.T, tree api.Tree, scope api.Side, want string) {
	t.Helper()
	if p, e := check(t, tree, scope); e != api.OK || toldPlan(p) != want {
		t.Errorf("%s: %s, %d, want %s", toldTree(tree), toldPlan(p), e, want)
	}
}
