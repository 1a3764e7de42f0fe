package show_test

import (
	"fmt"
	"regexp"
	"slices"
	"strings"
	"testing"

	"berth/api"
	"berth/lex"
	"berth/parse"
	"berth/show"
)

// row is a row of the chapter's table: the part's class as a letter (c condition, t term, e a text or a number), which letters its kids may make, whether it has a Text, and the bounds of its Num.
type row struct {
	letter    string
	kids      *regexp.Regexp
	text      bool
	low, high int
}

var (
	noKids       = regexp.MustCompile(`^$`)
	oneCondition = regexp.MustCompile(`^c$`)
	conditions   = regexp.MustCompile(`^ccc*$`)
	oneTerm      = regexp.MustCompile(`^[te]$`)
	twoTerms     = regexp.MustCompile(`^[te][te]$`)
	upTo64       = regexp.MustCompile(`^e{0,64}$`)
	greatest     = 999999999999999999
	chapterTable = map[api.Kind]row{
		api.KTrue:      {"c", noKids, false, 0, 0},
		api.KFalse:     {"c", noKids, false, 0, 0},
		api.KNot:       {"c", oneCondition, false, 0, 0},
		api.KAnd:       {"c", conditions, false, 0, 0},
		api.KOr:        {"c", conditions, false, 0, 0},
		api.KCmp:       {"c", twoTerms, false, 1, 6},
		api.KIn:        {"c", twoTerms, false, 0, 1},
		api.KNear:      {"c", oneCondition, true, 0, 0},
		api.KApart:     {"c", oneCondition, true, 0, 0},
		api.KTolerated: {"c", noKids, true, 0, 0},
		api.KText:      {"e", noKids, true, 0, 0},
		api.KNum:       {"e", noKids, false, -greatest, greatest},
		api.KSet:       {"t", upTo64, false, 0, 0},
		api.KLabel:     {"t", noKids, true, 1, 3},
		api.KName:      {"t", noKids, false, 1, 3},
		api.KKeys:      {"t", noKids, false, 1, 3},
		api.KTaints:    {"t", noKids, false, 1, 3},
		api.KCap:       {"t", noKids, true, 1, 3},
		api.KInt:       {"t", oneTerm, false, 0, 0},
		api.KCount:     {"t", oneCondition, true, 0, 0},
	}
)

func wrong(code api.Errno, at int) *api.Fault { return &api.Fault{Code: code, At: at} }

// firstOf is the first place of the block of parts that ends with part i and holds it and all that stands in it; -1, if its kids aren't the blocks that end right ahead of it, one ahead of the other.
func firstOf(first []int, i int, kids []int) int {
	at := i
	for _, kid := range slices.Backward(kids) {
		if at == 0 || kid != at-1 {
			return -1
		}
		at = first[kid]
	}
	return at
}

// holds: whether a part, whose kids stand in the list, holds what its row says.
func holds(tree api.Tree, part api.Part) bool {
	r, known := chapterTable[part.Kind]
	letters := ""
	for _, kid := range part.Kids {
		letters += chapterTable[tree.Parts[kid].Kind].letter
	}
	return known && r.kids.MatchString(letters) && len(part.Text) <= 127 && (r.text || part.Text == "") && part.Num >= r.low && part.Num <= r.high
}

// modelTree is the fault of a list that is no tree, its nest left aside; else nil.
func modelTree(tree api.Tree) *api.Fault {
	n := len(tree.Parts)
	if n == 0 || n > 1000 {
		return wrong(api.ErrTree, min(n, 1000))
	}
	first := make([]int, n)
	for i, part := range tree.Parts {
		if first[i] = firstOf(first, i, part.Kids); first[i] < 0 || !holds(tree, part) {
			return wrong(api.ErrTree, i)
		}
	}
	if first[n-1] > 0 || chapterTable[tree.Parts[n-1].Kind].letter != "c" {
		return wrong(api.ErrTree, n-1)
	}
	return nil
}

// strength of what ties the kids of a condition together: what is weaker than it must be stands in parentheses.
func strength(kind api.Kind) int {
	switch kind {
	case api.KOr:
		return 1
	case api.KAnd:
		return 2
	}
	return 3
}

func parenthesized(in, kid api.Kind) bool {
	least := map[api.Kind]int{api.KNot: 3, api.KAnd: 3, api.KOr: 2}[in]
	return strength(kid) < least
}

// modelNests climbs from each part up to the whole.
func modelNests(tree api.Tree) []int {
	parent := make([]int, len(tree.Parts))
	for i, part := range tree.Parts {
		for _, kid := range part.Kids {
			parent[kid] = i
		}
	}
	nests := make([]int, len(tree.Parts))
	for i := range nests {
		for at := i; at < len(nests)-1; at = parent[at] {
			in := tree.Parts[parent[at]].Kind
			if slices.Contains([]api.Kind{api.KNot, api.KNear, api.KApart, api.KCount, api.KInt}, in) {
				nests[i]++
			}
			if parenthesized(in, tree.Parts[at].Kind) {
				nests[i]++
			}
		}
	}
	return nests
}

// modelText writes a part by the chapter's words, from the whole down.
func modelText(tree api.Tree, place int) string {
	part := tree.Parts[place]
	var kids []any
	var list []string
	for _, kid := range part.Kids {
		s := modelText(tree, kid)
		if parenthesized(part.Kind, tree.Parts[kid].Kind) {
			s = "(" + s + ")"
		}
		kids, list = append(kids, s), append(list, s)
	}
	text, side := lex.Quote(part.Text), []string{"?", "pod", "node", "it"}[max(0, min(part.Num, 3))]
	switch part.Kind {
	case api.KTrue, api.KFalse:
		return fmt.Sprint(part.Kind == api.KTrue)
	case api.KNot:
		return fmt.Sprintf("!%s", kids...)
	case api.KAnd:
		return strings.Join(list, " && ")
	case api.KOr:
		return strings.Join(list, " || ")
	case api.KCmp:
		return fmt.Sprintf([]string{"", "%s == %s", "%s != %s", "%s < %s", "%s <= %s", "%s > %s", "%s >= %s"}[part.Num], kids...)
	case api.KIn:
		return fmt.Sprintf([]string{"%s in %s", "%s notin %s"}[part.Num], kids...)
	case api.KNear, api.KApart, api.KCount:
		return fmt.Sprintf("%s(%s, %s)", map[api.Kind]string{api.KNear: "near", api.KApart: "apart", api.KCount: "count"}[part.Kind], text, list[0])
	case api.KTolerated:
		return "tolerated(" + text + ")"
	case api.KText:
		return text
	case api.KNum:
		return fmt.Sprintf("%d", part.Num)
	case api.KSet:
		return "{" + strings.Join(list, ", ") + "}"
	case api.KLabel:
		return side + "[" + text + "]"
	case api.KCap:
		return side + ".cap(" + text + ")"
	case api.KInt:
		return fmt.Sprintf("int(%s)", kids...)
	}
	return side + map[api.Kind]string{api.KName: ".name", api.KKeys: ".keys", api.KTaints: ".taints"}[part.Kind]
}

// model: what Nest and Text must answer, the fault of Valid, and the fault of Text.
func model(tree api.Tree) (nest int, text string, invalid, silent *api.Fault) {
	if f := modelTree(tree); f != nil {
		return 0, "", f, f
	}
	nests := modelNests(tree)
	for i, n := range nests {
		if n > 32 {
			return 0, "", wrong(api.ErrNest, i), wrong(api.ErrNest, i)
		}
	}
	text = modelText(tree, len(tree.Parts)-1)
	if len(text) > 4096 {
		return slices.Max(nests), "", nil, wrong(api.ErrShowLong, -1)
	}
	return slices.Max(nests), text, nil, nil
}

func sameTree(a, b api.Tree) bool {
	return slices.EqualFunc(a.Parts, b.Parts, func(x, y api.Part) bool {
		return x.Kind == y.Kind && x.Text == y.Text && x.Num == y.Num && slices.Equal(x.Kids, y.Kids)
	})
}

// sameFault: whether an error is nil where none is wanted, else a *api.Fault of its own just as the wanted one.
func sameFault(err error, want *api.Fault) bool {
	if want == nil || err == nil {
		return err == nil && want == nil
	}
	f, ok := err.(*api.Fault)
	return ok && f != nil && *f == *want
}

// told is a tree as a test's message tells it.
func told(tree api.Tree) string {
	return cut(fmt.Sprintf("%d parts: %+v", len(tree.Parts), tree.Parts[:min(len(tree.Parts), 12)]))
}

func cut(s string) string { return s[:min(len(s), 600)] }

// expect holds the three calls against what is wanted; beside a fault nothing may stand.
func expect(t *testing.T, tree api.Tree, nest int, text string, invalid, silent *api.Fault) {
	t.Helper()
	if err := show.Valid(tree); !sameFault(err, invalid) {
		t.Fatalf("Valid of %s\n  = %v, want %v", told(tree), err, invalid)
	}
	if n, err := show.Nest(tree); n != nest || !sameFault(err, invalid) {
		t.Fatalf("Nest of %s\n  = %d, %v, want %d, %v", told(tree), n, err, nest, invalid)
	}
	if s, err := show.Text(tree); s != text || !sameFault(err, silent) {
		t.Fatalf("Text of %s\n  = %q, %v, want %q, %v", told(tree), cut(s), err, cut(text), silent)
	}
}

// back: a tree's text reads as the tree.
func back(t *testing.T, tree api.Tree, text string) {
	t.Helper()
	if again, _, err := parse.Parse(text); err != nil || !sameTree(again, tree) {
		t.Fatalf("%q reads as %s, %v, want %s", cut(text), told(again), err, told(tree))
	}
}

// check holds the calls against the model, and a text against what it reads as.
func check(t *testing.T, tree api.Tree) {
	t.Helper()
	nest, text, invalid, silent := model(tree)
	expect(t, tree, nest, text, invalid, silent)
	if silent == nil {
		back(t, tree, text)
	}
}

// expectText: a valid tree with this nest and this text.
func expectText(t *testing.T, tree api.Tree, nest int, text string) {
	t.Helper()
	expect(t, tree, nest, text, nil, nil)
	check(t, tree)
}

// expectFault: a tree that isn't valid.
func expectFault(t *testing.T, tree api.Tree, code api.Errno, at int) {
	t.Helper()
	expect(t, tree, 0, "", wrong(code, at), wrong(code, at))
	check(t, tree)
}

// expectLong: a valid tree with this nest whose text is too long.
func expectLong(t *testing.T, tree api.Tree, nest int) {
	t.Helper()
	expect(t, tree, nest, "", nil, wrong(api.ErrShowLong, -1))
	check(t, tree)
}
