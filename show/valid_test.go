package show_test

import (
	"math"
	"slices"
	"strings"
	"testing"

	"berth/api"
)

// standing is a part of a kind at its place in a valid tree.
type standing struct {
	tree api.Tree
	at   int
}

// samples have one part of each kind: a condition as the whole, a term as the first kid of a comparison.
func samples() map[api.Kind]standing {
	out := map[api.Kind]standing{}
	for _, s := range conditionSamples {
		tree := list(s.twig)
		out[s.twig.part.Kind] = standing{tree, len(tree.Parts) - 1}
	}
	for _, s := range termSamples {
		tree := list(equal(s.twig, num(1)))
		out[s.twig.part.Kind] = standing{tree, len(tree.Parts) - 3}
	}
	return out
}

// changed is a copy of a tree in which one part is another.
func changed(tree api.Tree, at int, change func(part *api.Part)) api.Tree {
	parts := slices.Clone(tree.Parts)
	for i := range parts {
		parts[i].Kids = slices.Clone(parts[i].Kids)
	}
	change(&parts[at])
	return api.Tree{Parts: parts}
}

// P13.1: the samples are of every kind, and valid.
func TestSamples(t *testing.T) {
	all := samples()
	for kind := api.KTrue; kind <= api.KCount; kind++ {
		s, has := all[kind]
		if !has || s.tree.Parts[s.at].Kind != kind {
			t.Fatalf("no sample of the kind %d", kind)
		}
		if _, _, f, _ := model(s.tree); f != nil {
			t.Fatalf("the sample of the kind %d: %v", kind, f)
		}
		check(t, s.tree)
	}
}

// P13.1: no part; 999, 1000, 1001 and many more parts, by each way that makes many.
func TestHowManyParts(t *testing.T) {
	expectFault(t, api.Tree{}, api.ErrTree, 0)
	expectFault(t, api.Tree{Parts: []api.Part{}}, api.ErrTree, 0)
	for _, n := range []int{998, 999} {
		for _, w := range []twig{
			or(many(n, yes)...),
			and(many(n, no)...),
			or(append(many((n-1)/3, equal(num(1), num(2))), many((n-1)%3+1, yes)...)...),
			not(or(many(n-1, yes)...)),
		} {
			if size := len(list(w).Parts); size != n+1 {
				t.Fatalf("%d parts", size)
			}
			check(t, list(w))
			if _, _, f, _ := model(list(w)); f != nil {
				t.Errorf("%d parts: %v", n+1, f)
			}
		}
	}
	for _, n := range []int{1000, 1001, 1002, 2000, 70000} {
		expectFault(t, list(or(many(n, yes)...)), api.ErrTree, 1000)
		expectFault(t, list(not(or(many(n-1, yes)...))), api.ErrTree, 1000)
		expectFault(t, parts(slices.Repeat([]api.Part{plain(api.KTrue)}, n+1)...), api.ErrTree, 1000)
		expectFault(t, parts(make([]api.Part, n+1)...), api.ErrTree, 1000)
	}
	for _, n := range []int{2, 999, 1000} {
		expectFault(t, parts(slices.Repeat([]api.Part{plain(api.KTrue)}, n)...), api.ErrTree, n-1)
		expectFault(t, parts(make([]api.Part, n)...), api.ErrTree, 0)
	}
	sets := and(many(14, in(num(1), set(many(64, num(1))...)))...)
	check(t, list(sets))
	sets.kids = append(sets.kids, in(num(1), set(many(58, num(1))...)))
	if size := len(list(sets).Parts); size != 1000 {
		t.Fatalf("%d parts", size)
	}
	check(t, list(sets))
	sets.kids = append(sets.kids, yes)
	expectFault(t, list(sets), api.ErrTree, 1000)
}

// P13.1: kinds that the table doesn't have, with and without kids.
func TestNoKind(t *testing.T) {
	for _, kind := range []api.Kind{0, -1, 21, 22, 100, 256, 257, 1 << 32, 1<<32 + 1, math.MinInt, math.MaxInt, -20} {
		expectFault(t, parts(plain(kind)), api.ErrTree, 0)
		expectFault(t, parts(plain(api.KTrue), plain(kind, 0)), api.ErrTree, 1)
		expectFault(t, parts(plain(kind), plain(api.KNot, 0)), api.ErrTree, 0)
		expectFault(t, parts(plain(api.KTrue), plain(kind), plain(api.KAnd, 0, 1)), api.ErrTree, 1)
		for _, s := range samples() {
			expectFault(t, changed(s.tree, s.at, func(part *api.Part) { part.Kind = kind }), api.ErrTree, s.at)
		}
	}
}

// P13.1: Num on each kind: at its lowest and highest, one beyond, and far beyond.
func TestNum(t *testing.T) {
	bounds := map[api.Kind][2]int{
		api.KCmp: {1, 6}, api.KIn: {0, 1}, api.KNum: {-999999999999999999, 999999999999999999},
		api.KLabel: {1, 3}, api.KName: {1, 3}, api.KKeys: {1, 3}, api.KTaints: {1, 3}, api.KCap: {1, 3},
	}
	for kind, s := range samples() {
		low, high := bounds[kind][0], bounds[kind][1] // 0 and 0 on each kind that has no Num
		for n := low; n <= min(high, low+7); n++ {
			check(t, changed(s.tree, s.at, func(part *api.Part) { part.Num = n }))
		}
		for _, n := range []int{low, high} {
			tree := changed(s.tree, s.at, func(part *api.Part) { part.Num = n })
			check(t, tree)
			if _, _, f, _ := model(tree); f != nil {
				t.Errorf("kind %d with Num %d: %v", kind, n, f)
			}
		}
		for _, n := range []int{low - 1, high + 1, low - 2, high + 100, math.MinInt, math.MaxInt, high + 1<<32, low - 1<<32} {
			expectFault(t, changed(s.tree, s.at, func(part *api.Part) { part.Num = n }), api.ErrTree, s.at)
		}
	}
}

// P13.1: Text on each kind: up to 127 bytes on those that have one, none on the others.
func TestText(t *testing.T) {
	has := []api.Kind{api.KNear, api.KApart, api.KTolerated, api.KText, api.KLabel, api.KCap, api.KCount}
	for kind, s := range samples() {
		for _, text := range []string{"", "a", "\x00", " ", strings.Repeat("a", 126), strings.Repeat("a", 127), strings.Repeat("\xff", 127), strings.Repeat("a", 128), strings.Repeat("\u00e9", 64), strings.Repeat("a", 129), strings.Repeat("a", 70000)} {
			tree := changed(s.tree, s.at, func(part *api.Part) { part.Text = text })
			if len(text) > 127 || text != "" && !slices.Contains(has, kind) {
				expectFault(t, tree, api.ErrTree, s.at)
				continue
			}
			check(t, tree)
			if _, _, f, _ := model(tree); f != nil {
				t.Errorf("kind %d with the text %q: %v", kind, text, f)
			}
		}
	}
}

// P13.1: how many kids each kind has, up to 70: conditions for those that hold conditions, numbers for the others.
func TestHowManyKids(t *testing.T) {
	allowed := map[api.Kind][2]int{
		api.KNot: {1, 1}, api.KAnd: {2, 1000}, api.KOr: {2, 1000}, api.KCmp: {2, 2}, api.KIn: {2, 2}, api.KNear: {1, 1}, api.KApart: {1, 1},
		api.KSet: {0, 64}, api.KInt: {1, 1}, api.KCount: {1, 1},
	}
	for kind, s := range samples() {
		part := s.tree.Parts[s.at]
		for n := range 71 {
			for _, kid := range []twig{yes, num(3)} {
				w := of(kind, part.Text, part.Num, many(n, kid)...)
				tree := list(w)
				if chapterTable[kind].letter != "c" {
					tree = list(equal(w, num(1)))
				}
				check(t, tree)
				if n < allowed[kind][0] || n > allowed[kind][1] {
					expectFault(t, tree, api.ErrTree, n)
				}
			}
		}
	}
	for _, n := range []int{64, 65, 66, 100, 900} {
		tree := list(in(num(1), set(many(n, text("a"))...)))
		if n == 64 {
			check(t, tree)
			continue
		}
		expectFault(t, tree, api.ErrTree, n+1)
	}
}

// P13.1: every kind as a kid of every kind, in every place among its kids: a kid of the wrong class bars at the part that has it, not at the kid.
func TestKidsOfEachClass(t *testing.T) {
	isTerm := func(kind api.Kind) bool { return kind >= api.KText }
	for holder, s := range samples() {
		part := s.tree.Parts[s.at]
		for _, kid := range slices.Concat(conditionSamples, termSamples) {
			for i := range part.Kids {
				w := of(holder, part.Text, part.Num)
				size := 0
				for j := range part.Kids {
					other := map[bool]twig{true: num(1), false: yes}[isTerm(s.tree.Parts[part.Kids[0]].Kind)]
					if i == j {
						other = kid.twig
					}
					w.kids = append(w.kids, other)
					size += len(list(other).Parts)
				}
				tree := list(w)
				if isTerm(holder) {
					tree = list(equal(w, num(1)))
				}
				check(t, tree)
				wants := isTerm(s.tree.Parts[part.Kids[0]].Kind)
				if k := kid.twig.part.Kind; isTerm(k) != wants || holder == api.KSet && k != api.KText && k != api.KNum {
					expectFault(t, tree, api.ErrTree, size)
				} else if _, _, f, _ := model(tree); f != nil {
					t.Errorf("a kid of the kind %d in one of the kind %d: %v", k, holder, f)
				}
			}
		}
	}
}

// P13.1: a set holds texts and numbers alone, at each of its places.
func TestKidsOfSets(t *testing.T) {
	for _, kid := range slices.Concat(conditionSamples, termSamples) {
		k := kid.twig.part.Kind
		if k == api.KText || k == api.KNum {
			continue
		}
		size := len(list(kid.twig).Parts)
		expectFault(t, list(in(num(1), set(kid.twig))), api.ErrTree, size+1)
		expectFault(t, list(in(num(1), set(text("a"), kid.twig, num(2)))), api.ErrTree, size+3)
		expectFault(t, list(equal(set(many(63, num(1))...), set(append(many(63, num(1)), kid.twig)...))), api.ErrTree, 64+63+size)
	}
}

// P13.1: kids out of order, told twice, below 0, at the part's own place, behind it, far off, or not those that postorder asks for.
func TestWhichKids(t *testing.T) {
	yes := plain(api.KTrue)
	for _, c := range []struct {
		tree api.Tree
		at   int
	}{
		{parts(yes, yes, plain(api.KAnd, 1, 0)), 2},
		{parts(yes, yes, plain(api.KAnd, 0, 0)), 2},
		{parts(yes, yes, plain(api.KAnd, 1, 1)), 2},
		{parts(yes, yes, plain(api.KAnd, 0, 1, 1)), 2},
		{parts(yes, yes, plain(api.KAnd, 0, 0, 1)), 2},
		{parts(yes, yes, plain(api.KAnd, 0, 2)), 2},
		{parts(yes, yes, plain(api.KAnd, 0, 3)), 2},
		{parts(yes, yes, plain(api.KAnd, -1, 1)), 2},
		{parts(yes, yes, plain(api.KAnd, -1, 0, 1)), 2},
		{parts(yes, yes, plain(api.KAnd, 0, -1)), 2},
		{parts(yes, yes, plain(api.KAnd, 0, math.MaxInt)), 2},
		{parts(yes, yes, plain(api.KAnd, math.MinInt, 1)), 2},
		{parts(yes, plain(api.KAnd, 0, 1), yes), 1},
		{parts(plain(api.KNot, 0)), 0},
		{parts(plain(api.KNot, 1), yes), 0},
		{parts(plain(api.KNot, -1)), 0},
		{parts(yes, plain(api.KNot, 1)), 1},
		{parts(yes, plain(api.KNot, 2), yes), 1},
		{parts(yes, yes, plain(api.KNot, 0)), 2},
		{parts(yes, yes, plain(api.KNot, 0), plain(api.KAnd, 1, 2)), 2},
		{parts(yes, yes, plain(api.KNot, 1), plain(api.KAnd, 0, 1)), 3},
		{parts(yes, yes, plain(api.KNot, 1), plain(api.KAnd, 2, 0)), 3},
		{parts(yes, yes, plain(api.KNot, 1), plain(api.KAnd, 1, 2)), 3},
		{parts(yes, yes, plain(api.KNot, 1), plain(api.KAnd, 0, 1, 2)), 3},
		{parts(yes, yes, yes, plain(api.KAnd, 0, 1)), 3},
		{parts(yes, yes, yes, plain(api.KAnd, 0, 2)), 3},
		{parts(yes, yes, yes, plain(api.KAnd, 0, 2, 1)), 3},
		{parts(yes, yes, plain(api.KOr, 0, 1), plain(api.KOr, 0, 1)), 3},
		{parts(yes, plain(api.KTrue, 0)), 1},
		{parts(plain(api.KTrue, 0)), 0},
		{parts(plain(api.KSet, 0), full(api.KNum, "", 1), full(api.KCmp, "", 1, 0, 1)), 0},
	} {
		expectFault(t, c.tree, api.ErrTree, c.at)
	}
	check(t, parts(yes, yes, plain(api.KNot, 1), plain(api.KAnd, 0, 2)))
	for _, n := range []int{1000, 70000} {
		expectFault(t, parts(yes, plain(api.KAnd, make([]int, n)...)), api.ErrTree, 1)
		expectFault(t, parts(plain(api.KSet, make([]int, n)...)), api.ErrTree, 0)
	}
}

// P13.1: parts that are nobody's kid, and a last part that is no condition: told at the last part, behind all that bars in the list.
func TestWhatIsLeft(t *testing.T) {
	yes, one := plain(api.KTrue), full(api.KNum, "", 1)
	expectFault(t, parts(yes, yes), api.ErrTree, 1)
	expectFault(t, parts(yes, yes, yes), api.ErrTree, 2)
	expectFault(t, parts(one, yes), api.ErrTree, 1)
	expectFault(t, parts(yes, one), api.ErrTree, 1)
	expectFault(t, parts(one), api.ErrTree, 0)
	expectFault(t, parts(one, one, full(api.KCmp, "", 1, 0, 1), one), api.ErrTree, 3)
	expectFault(t, parts(one, one, one, full(api.KCmp, "", 1, 1, 2)), api.ErrTree, 3)
	expectFault(t, parts(yes, yes, plain(api.KNot, 1)), api.ErrTree, 2)
	expectFault(t, parts(yes, yes, yes, plain(api.KAnd, 1, 2)), api.ErrTree, 3)
	expectFault(t, parts(yes, full(api.KCount, "z", 0, 0)), api.ErrTree, 1)
	expectFault(t, parts(one, plain(api.KInt, 0)), api.ErrTree, 1)
	expectFault(t, parts(one, one, plain(api.KSet, 0, 1)), api.ErrTree, 2)
	for _, s := range termSamples {
		tree := list(s.twig)
		expectFault(t, tree, api.ErrTree, len(tree.Parts)-1)
	}
	for _, s := range conditionSamples {
		tree := list(s.twig)
		for _, more := range slices.Concat(conditionSamples, termSamples) {
			two := list(or(s.twig, more.twig))
			two.Parts = two.Parts[:len(two.Parts)-1]
			expectFault(t, two, api.ErrTree, len(two.Parts)-1)
		}
		expectFault(t, api.Tree{Parts: append([]api.Part{plain(api.KFalse), plain(api.KNot, 0)}, shifted(tree, 2)...)}, api.ErrTree, len(tree.Parts)+1)
	}
}

// shifted are a tree's parts as they stand so many places further.
func shifted(tree api.Tree, by int) []api.Part {
	var out []api.Part
	for i := range tree.Parts {
		out = append(out, changed(tree, i, func(part *api.Part) {
			for j := range part.Kids {
				part.Kids[j] += by
			}
		}).Parts[i])
	}
	return out
}

// faulty are lists of parts that each bar a tree at the place that is told beside them, counted from the first of these parts.
var faulty = []struct {
	parts []api.Part
	at    int
}{
	{[]api.Part{plain(0)}, 0},
	{[]api.Part{full(api.KTrue, "x", 0)}, 0},
	{[]api.Part{full(api.KFalse, "", 1)}, 0},
	{[]api.Part{full(api.KNum, "", 1000000000000000000)}, 0},
	{[]api.Part{full(api.KText, strings.Repeat("a", 128), 0)}, 0},
	{[]api.Part{plain(api.KName)}, 0},
	{[]api.Part{plain(api.KTrue), plain(api.KNot, 77)}, 1},
	{[]api.Part{plain(api.KTrue), plain(api.KInt, 0)}, 1},
	{[]api.Part{plain(api.KTrue), plain(api.KTrue), plain(api.KAnd, 0, 0)}, 2},
}

// P13.1: of two faults in one list the one that stands first is told, whatever they are; what is left over comes behind both, the nest behind that.
func TestFirstFault(t *testing.T) {
	deep := yes
	for range 40 {
		deep = not(deep)
	}
	nested := list(deep)
	for _, f := range faulty {
		for _, g := range faulty {
			both := slices.Concat(f.parts, g.parts)
			expectFault(t, api.Tree{Parts: both}, api.ErrTree, f.at)
		}
		expectFault(t, api.Tree{Parts: slices.Concat(nested.Parts, f.parts)}, api.ErrTree, at(f.parts, f.at, 41))
		expectFault(t, api.Tree{Parts: slices.Concat(f.parts, nested.Parts)}, api.ErrTree, f.at)
		many := make([]api.Part, 0, 2000)
		for len(many) < 1001 {
			many = append(many, f.parts...)
		}
		expectFault(t, api.Tree{Parts: many}, api.ErrTree, 1000)
	}
	expectFault(t, nested, api.ErrNest, 0)
	expectFault(t, api.Tree{Parts: append([]api.Part{plain(api.KTrue)}, shifted(nested, 1)...)}, api.ErrTree, 41)
	expectFault(t, api.Tree{Parts: append(slices.Clone(nested.Parts), plain(api.KTrue))}, api.ErrTree, 41)
	expectFault(t, list(count("z", deep)), api.ErrTree, 41)
	expectFault(t, list(integer(deep)), api.ErrTree, 41)
	expectFault(t, list(or(deep, text("a"))), api.ErrTree, 42)
	expectFault(t, list(or(text("a"), deep)), api.ErrTree, 42)
	expectFault(t, list(or(integer(yes), deep)), api.ErrTree, 1)
	expectFault(t, list(or(deep, of(api.KNot, "", 1, yes))), api.ErrTree, 42)
	expectFault(t, list(or(append(many(960, yes), deep)...)), api.ErrTree, 1000)
}

// at is where a list's fault comes to stand behind so many others: a part that wants kids finds other ones than it asks for.
func at(parts []api.Part, place, ahead int) int {
	for i, part := range parts {
		if len(part.Kids) > 0 {
			return i + ahead
		}
	}
	return place + ahead
}
