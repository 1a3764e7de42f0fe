package sorts_test

import (
	"fmt"
	"regexp"
	"slices"
	"strings"
	"testing"

	"berth/api"
	"berth/show"
	"berth/sorts"
)

// What chapters 2, 3 and 4 say of names, keys and effects.
var (
	nameForm  = regexp.MustCompile(`^[a-z0-9]([-a-z0-9]*[a-z0-9])?(\.[a-z0-9]([-a-z0-9]*[a-z0-9])?)*$`)
	shortForm = regexp.MustCompile(`^[a-zA-Z0-9]([-_.a-zA-Z0-9]*[a-zA-Z0-9])?$`)
	goodsForm = regexp.MustCompile(`^[a-z]([-./a-z0-9]*[a-z0-9])?$`)
	effects   = []string{"NoSchedule", "PreferNoSchedule", "NoExecute"}
)

func isKey(s string) bool {
	ahead, short, two := strings.Cut(s, "/")
	if !two {
		ahead, short = "a", s
	}
	return nameForm.MatchString(ahead) && len(ahead) <= 63 && shortForm.MatchString(short) && len(short) <= 63
}

func isGoods(s string) bool { return goodsForm.MatchString(s) && len(s) <= 32 }

// chapterSorts and chapterSides are the last columns of the chapter's table; a set's sort hangs on its first kid, and the kinds that have no row in the sides join those of their kids.
var (
	chapterSorts = map[api.Kind]api.Sort{
		api.KTrue: api.SortBool, api.KFalse: api.SortBool, api.KNot: api.SortBool, api.KAnd: api.SortBool, api.KOr: api.SortBool,
		api.KCmp: api.SortBool, api.KIn: api.SortBool, api.KNear: api.SortBool, api.KApart: api.SortBool, api.KTolerated: api.SortBool,
		api.KText: api.SortText, api.KNum: api.SortNum, api.KSet: api.SortEmpty, api.KLabel: api.SortText, api.KName: api.SortText,
		api.KKeys: api.SortTexts, api.KTaints: api.SortTexts, api.KCap: api.SortNum, api.KInt: api.SortNum, api.KCount: api.SortNum,
	}
	chapterSides = map[api.Kind]api.Side{
		api.KTrue: api.Fixed, api.KFalse: api.Fixed, api.KText: api.Fixed, api.KNum: api.Fixed, api.KSet: api.Fixed,
		api.KNear: api.OfNode, api.KApart: api.OfNode, api.KCount: api.OfNode, api.KTolerated: api.OfNode, api.KTaints: api.OfNode, api.KCap: api.OfNode,
	}
)

// rule is one of the chapter's rules at a part: whether it is kept, else what is told.
type rule struct {
	kept bool
	code api.Errno
	at   int
}

// scopeAt climbs from a part up to the whole: a selector on the way makes its scope OfIt.
func scopeAt(tree api.Tree, at int, scope api.Side) api.Side {
	for up := at + 1; up < len(tree.Parts); up++ {
		if slices.Contains(tree.Parts[up].Kids, at) {
			if kind := tree.Parts[up].Kind; kind == api.KNear || kind == api.KApart || kind == api.KCount {
				return api.OfIt
			}
			at = up
		}
	}
	return scope
}

// sidesOf are the sides of kids, each once.
func sidesOf(types []api.Type, kids []int) []api.Side {
	var sides []api.Side
	for _, kid := range kids {
		sides = append(sides, types[kid].Side)
	}
	slices.Sort(sides)
	return slices.Compact(sides)
}

// rulesAt are the rules of a part's kind in the order of the chapter's table; its kids have their types.
func rulesAt(tree api.Tree, types []api.Type, at int, scope api.Side) []rule {
	part, side := tree.Parts[at], api.Side(tree.Parts[at].Num)
	onNode := scope == api.OfNode
	sideKnown := rule{side == api.OfPod || side == api.OfNode && onNode || side == api.OfIt && scope == api.OfIt, api.ErrSortScope, at}
	ofNode := rule{side == api.OfNode && onNode, api.ErrSortScope, at}
	key := rule{isKey(part.Text), api.ErrSortKey, at}
	switch part.Kind {
	case api.KCmp, api.KIn:
		return rulesOfPair(tree, types, at)
	case api.KNear, api.KApart, api.KCount:
		return []rule{{onNode, api.ErrSortInner, at}, key}
	case api.KTolerated:
		return []rule{{onNode, api.ErrSortScope, at}, {slices.Contains(effects, part.Text), api.ErrSortKey, at}}
	case api.KSet:
		var rules []rule
		for _, kid := range part.Kids {
			rules = append(rules, rule{tree.Parts[kid].Kind == tree.Parts[part.Kids[0]].Kind, api.ErrSortSet, kid})
		}
		return rules
	case api.KLabel:
		return []rule{sideKnown, key}
	case api.KName, api.KKeys:
		return []rule{sideKnown}
	case api.KTaints:
		return []rule{ofNode}
	case api.KCap:
		return []rule{ofNode, {isGoods(part.Text), api.ErrSortKey, at}}
	case api.KInt:
		kid := tree.Parts[part.Kids[0]].Kind
		return []rule{{kid == api.KLabel || kid == api.KText, api.ErrSortInt, part.Kids[0]}}
	}
	return nil
}

func rulesOfPair(tree api.Tree, types []api.Type, at int) []rule {
	part := tree.Parts[at]
	a, b := types[part.Kids[0]], types[part.Kids[1]]
	rules := []rule{{a.Sort == api.SortText || a.Sort == api.SortNum, api.ErrSortType, part.Kids[0]}}
	if part.Kind == api.KCmp {
		rules = append(rules, rule{b.Sort == a.Sort, api.ErrSortType, part.Kids[1]})
		rules = append(rules, rule{a.Sort == api.SortNum || part.Num <= int(api.CmpNe), api.ErrSortType, at})
	} else {
		among := map[api.Sort][]api.Sort{api.SortText: {api.SortTexts, api.SortEmpty}, api.SortNum: {api.SortNums, api.SortEmpty}}
		rules = append(rules, rule{slices.Contains(among[a.Sort], b.Sort), api.ErrSortType, part.Kids[1]})
	}
	return append(rules, rule{min(a.Side, b.Side) < api.OfNode, api.ErrSortSides, at})
}

// typeAt is the type of a part that keeps its rules.
func typeAt(tree api.Tree, types []api.Type, at int) api.Type {
	part := tree.Parts[at]
	out := api.Type{Sort: chapterSorts[part.Kind]}
	if part.Kind == api.KSet && len(part.Kids) > 0 {
		out.Sort = map[api.Kind]api.Sort{api.KText: api.SortTexts, api.KNum: api.SortNums}[tree.Parts[part.Kids[0]].Kind]
	}
	side, fixed := chapterSides[part.Kind]
	switch {
	case fixed:
		out.Side = side
	case part.Kind == api.KLabel || part.Kind == api.KName || part.Kind == api.KKeys:
		out.Side = api.Side(part.Num)
	default:
		out.Side = slices.Max(sidesOf(types, part.Kids)) // Fixed, OfPod, and then the one that moves
	}
	return out
}

// model: what Check must answer.
func model(tree api.Tree, scope api.Side) ([]api.Type, *api.Fault) {
	if scope != 2 && scope != 3 {
		return nil, &api.Fault{Code: 149, At: -1}
	}
	if err := show.Valid(tree); err != nil {
		cause := err.(*api.Fault)
		return nil, &api.Fault{Code: 140, At: cause.At, Cause: cause}
	}
	types := make([]api.Type, len(tree.Parts))
	for at := range tree.Parts {
		for _, r := range rulesAt(tree, types, at, scopeAt(tree, at, scope)) {
			if !r.kept {
				return nil, &api.Fault{Code: r.code, At: r.at}
			}
		}
		types[at] = typeAt(tree, types, at)
	}
	return types, nil
}

// sameFault: whether an error is nil where none is wanted, else a *api.Fault itself just as the wanted one, its cause too.
func sameFault(err error, want *api.Fault) bool {
	if want == nil || err == nil {
		return err == nil && want == nil
	}
	f, ok := err.(*api.Fault)
	if !ok || f == nil || f.Code != want.Code || f.At != want.At || f.Name != want.Name {
		return false
	}
	if want.Cause == nil {
		return f.Cause == nil
	}
	return sameFault(f.Cause, want.Cause.(*api.Fault))
}

// toldTree is a tree as a test's message tells it.
func toldTree(tree api.Tree) string {
	if s, err := show.Text(tree); err == nil {
		return s
	}
	s := fmt.Sprintf("%d parts: %+v", len(tree.Parts), tree.Parts[:min(len(tree.Parts), 12)])
	return s[:min(len(s), 600)]
}

// toldTypes are types as the chapter's examples write them.
func toldTypes(types []api.Type) string {
	sortNames := []string{"?", "bool", "text", "number", "texts", "numbers", "empty"}
	sideNames := []string{"Fixed", "OfPod", "OfNode", "OfIt"}
	var out []string
	for _, x := range types {
		if x.Sort < 1 || x.Sort > 6 || x.Side < 0 || x.Side > 3 {
			out = append(out, fmt.Sprint(x))
			continue
		}
		out = append(out, sortNames[x.Sort]+" "+sideNames[x.Side])
	}
	return strings.Join(out, "; ")
}

// expect holds Check against what is wanted; beside a fault no types may stand, and without one there is a type for each part.
func expect(t *testing.T, tree api.Tree, scope api.Side, want []api.Type, fault *api.Fault) {
	t.Helper()
	types, err := sorts.Check(tree, scope)
	if !slices.Equal(types, want) || !sameFault(err, fault) {
		t.Fatalf("Check(%s, %d)\n  = %s, %v\n  want %s, %v", toldTree(tree), scope, toldTypes(types), err, toldTypes(want), fault)
	}
	if err == nil && len(types) != len(tree.Parts) || err != nil && len(types) != 0 {
		t.Fatalf("Check(%s, %d): %d types, %v", toldTree(tree), scope, len(types), err)
	}
}

// check holds Check against the model.
func check(t *testing.T, tree api.Tree, scope api.Side) *api.Fault {
	t.Helper()
	types, fault := model(tree, scope)
	expect(t, tree, scope, types, fault)
	return fault
}

// expectTypes: a tree that is taken, with these types.
func expectTypes(t *testing.T, tree api.Tree, scope api.Side, want string) {
	t.Helper()
	if types, err := sorts.Check(tree, scope); err != nil || toldTypes(types) != want {
		t.Errorf("Check(%s, %d)\n  = %s, %v\n  want %s", toldTree(tree), scope, toldTypes(types), err, want)
	}
	check(t, tree, scope)
}

// expectFault: a valid tree that is refused.
func expectFault(t *testing.T, tree api.Tree, scope api.Side, code api.Errno, at int) {
	t.Helper()
	expect(t, tree, scope, nil, &api.Fault{Code: code, At: at})
	check(t, tree, scope)
}

// expectTaken: a tree that is taken in a scope.
func expectTaken(t *testing.T, tree api.Tree, scope api.Side) {
	t.Helper()
	if f := check(t, tree, scope); f != nil {
		t.Fatalf("Check(%s, %d): %v", toldTree(tree), scope, f)
	}
}
