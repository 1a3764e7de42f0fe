package show_test

import (
	"math"
	"slices"
	"strconv"
	"strings"
	"testing"

	"berth/api"
	"berth/lex"
	"berth/parse"
	"berth/show"
)

// P13.1 to P13.3: the chapter's examples, and the one of DOC.md that speaks of this layer.
func TestExamples(t *testing.T) {
	yes, no := plain(api.KTrue), plain(api.KFalse)
	a := full(api.KText, "a", 0)
	expectText(t, parts(yes), 0, "true")
	expectText(t, parts(full(api.KLabel, "zone", node), a, full(api.KCmp, "", 1, 0, 1), plain(api.KNot, 2)), 1, `!node["zone"] == "a"`)
	expectText(t, parts(yes, no, plain(api.KAnd, 0, 1), yes, plain(api.KAnd, 2, 3)), 1, "(true && false) && true")
	expectText(t, parts(yes, no, plain(api.KAnd, 0, 1), yes, plain(api.KOr, 2, 3)), 0, "true && false || true")
	expectText(t, parts(full(api.KName, "", it), a, full(api.KText, "b", 0), plain(api.KSet, 1, 2), full(api.KIn, "", 1, 0, 3), full(api.KNear, "zone", 0, 4)), 1, `near("zone", it.name notin {"a", "b"})`)
	expectFault(t, parts(yes, yes), api.ErrTree, 1)
	expectFault(t, parts(yes, plain(api.KNot, 0), plain(api.KNot, 0)), api.ErrTree, 2)
	expectFault(t, parts(a), api.ErrTree, 0)
	expectFault(t, parts(a, plain(api.KNot, 0)), api.ErrTree, 1)
	one := full(api.KNum, "", 1)
	expectText(t, parts(one, plain(api.KInt, 0), one, full(api.KCmp, "", 3, 1, 2)), 1, "int(1) < 1")
	nots := parts(yes)
	for i := range 32 {
		nots.Parts = append(nots.Parts, plain(api.KNot, i))
	}
	expectText(t, nots, 32, strings.Repeat("!", 32)+"true")
	nots.Parts = append(nots.Parts, plain(api.KNot, 32))
	expectFault(t, nots, api.ErrNest, 0)

	tree, _, err := parse.Parse(`!(node["a"]=="1"&&true)||(false)`)
	if err != nil {
		t.Fatal(err)
	}
	expectText(t, tree, 2, `!(node["a"] == "1" && true) || false`)
}

// P13.2, P13.3: a condition of each kind, alone and as a kid of each kind that may hold one; in parentheses where the chapter says so and nowhere else.
func TestEachCondition(t *testing.T) {
	for _, s := range conditionSamples {
		kind := s.twig.part.Kind
		inNotOrAnd, inOr, more, moreInOr := s.text, s.text, 0, 0
		if kind == api.KAnd || kind == api.KOr {
			inNotOrAnd, more = "("+s.text+")", 1
		}
		if kind == api.KOr {
			inOr, moreInOr = "("+s.text+")", 1
		}
		expectText(t, list(s.twig), s.nest, s.text)
		expectText(t, list(not(s.twig)), s.nest+more+1, "!"+inNotOrAnd)
		expectText(t, list(not(not(s.twig))), s.nest+more+2, "!!"+inNotOrAnd)
		expectText(t, list(and(s.twig, yes)), s.nest+more, inNotOrAnd+" && true")
		expectText(t, list(and(yes, s.twig)), s.nest+more, "true && "+inNotOrAnd)
		expectText(t, list(and(no, s.twig, s.twig)), s.nest+more, "false && "+inNotOrAnd+" && "+inNotOrAnd)
		expectText(t, list(or(s.twig, yes)), s.nest+moreInOr, inOr+" || true")
		expectText(t, list(or(yes, s.twig)), s.nest+moreInOr, "true || "+inOr)
		expectText(t, list(or(no, s.twig, s.twig)), s.nest+moreInOr, "false || "+inOr+" || "+inOr)
		expectText(t, list(near("zone", s.twig)), s.nest+1, `near("zone", `+s.text+")")
		expectText(t, list(apart("zone", s.twig)), s.nest+1, `apart("zone", `+s.text+")")
		expectText(t, list(equal(count("zone", s.twig), num(0))), s.nest+1, `count("zone", `+s.text+") == 0")
		expectFault(t, list(equal(s.twig, num(0))), api.ErrTree, len(list(s.twig).Parts)+1)
	}
}

// P13.2, P13.3: a term of each kind as a kid of each kind that may hold one; it stands in no parentheses but those of int.
func TestEachTerm(t *testing.T) {
	for _, s := range termSamples {
		expectText(t, list(equal(s.twig, num(0))), s.nest, s.text+" == 0")
		expectText(t, list(equal(num(0), s.twig)), s.nest, "0 == "+s.text)
		expectText(t, list(in(s.twig, s.twig)), s.nest, s.text+" in "+s.text)
		expectText(t, list(notin(s.twig, s.twig)), s.nest, s.text+" notin "+s.text)
		expectText(t, list(in(integer(s.twig), integer(integer(s.twig)))), s.nest+2, "int("+s.text+") in int(int("+s.text+"))")
		expectText(t, list(not(equal(s.twig, s.twig))), s.nest+1, "!"+s.text+" == "+s.text)
		expectText(t, list(not(in(s.twig, s.twig))), s.nest+1, "!"+s.text+" in "+s.text)
		expectText(t, list(and(equal(s.twig, s.twig), in(s.twig, s.twig))), s.nest, s.text+" == "+s.text+" && "+s.text+" in "+s.text)
		size := len(list(s.twig).Parts)
		expectFault(t, list(s.twig), api.ErrTree, size-1)
		expectFault(t, list(not(s.twig)), api.ErrTree, size)
		if s.twig.part.Kind == api.KText || s.twig.part.Kind == api.KNum {
			expectText(t, list(in(num(0), set(s.twig))), 0, "0 in {"+s.text+"}")
			expectText(t, list(in(num(0), set(num(5), s.twig, s.twig))), 0, "0 in {5, "+s.text+", "+s.text+"}")
		}
	}
}

// P13.3: each mark and word between two terms, and each word for a side.
func TestMarksAndSides(t *testing.T) {
	for i, mark := range []string{"==", "!=", "<", "<=", ">", ">="} {
		expectText(t, list(of(api.KCmp, "", 1+i, num(1), num(-2))), 0, "1 "+mark+" -2")
	}
	expectText(t, list(of(api.KIn, "", 0, num(1), num(-2))), 0, "1 in -2")
	expectText(t, list(of(api.KIn, "", 1, num(1), num(-2))), 0, "1 notin -2")
	for side, word := range map[int]string{1: "pod", 2: "node", 3: "it"} {
		expectText(t, list(in(label(side, "a/b"), keys(side))), 0, word+`["a/b"] in `+word+".keys")
		expectText(t, list(in(name(side), taints(side))), 0, word+".name in "+word+".taints")
		expectText(t, list(equal(capacity(side, "cpu"), num(1))), 0, word+`.cap("cpu") == 1`)
	}
}

// P13.2, P13.3: KAnd and KOr of two and three kids, each as a kid of the other, of itself and of KNot; of one kid they are none.
func TestParentheses(t *testing.T) {
	for _, c := range []struct {
		twig twig
		nest int
		text string
	}{
		{and(yes, no, yes), 0, "true && false && true"},
		{or(yes, no, yes), 0, "true || false || true"},
		{and(and(yes, no), yes), 1, "(true && false) && true"},
		{and(yes, and(no, yes)), 1, "true && (false && true)"},
		{and(and(yes, no), and(no, yes)), 1, "(true && false) && (false && true)"},
		{and(or(yes, no), yes), 1, "(true || false) && true"},
		{and(yes, or(no, yes), yes), 1, "true && (false || true) && true"},
		{or(and(yes, no), yes), 0, "true && false || true"},
		{or(yes, and(no, yes, yes), yes), 0, "true || false && true && true || true"},
		{or(and(yes, no), and(no, yes)), 0, "true && false || false && true"},
		{or(or(yes, no), yes), 1, "(true || false) || true"},
		{or(yes, or(no, yes)), 1, "true || (false || true)"},
		{or(yes, no, or(no, yes, yes)), 1, "true || false || (false || true || true)"},
		{not(and(yes, no)), 2, "!(true && false)"},
		{not(or(yes, no)), 2, "!(true || false)"},
		{not(or(yes, no, yes)), 2, "!(true || false || true)"},
		{and(not(and(yes, no)), yes), 2, "!(true && false) && true"},
		{or(not(or(yes, no)), not(yes)), 2, "!(true || false) || !true"},
		{not(and(or(yes, no), yes)), 3, "!((true || false) && true)"},
		{not(or(and(yes, no), yes)), 2, "!(true && false || true)"},
		{and(or(and(yes, no), yes), yes), 1, "(true && false || true) && true"},
		{or(and(or(yes, no), yes), yes), 1, "(true || false) && true || true"},
		{or(and(and(yes, no), yes), yes), 1, "(true && false) && true || true"},
		{and(and(and(yes, no), yes), yes), 2, "((true && false) && true) && true"},
		{near("k", and(yes, or(no, yes))), 2, `near("k", true && (false || true))`},
		{apart("k", or(yes, and(no, yes))), 1, `apart("k", true || false && true)`},
		{not(near("k", or(yes, no))), 2, `!near("k", true || false)`},
		{not(equal(count("k", or(yes, no)), num(1))), 2, `!count("k", true || false) == 1`},
		{not(equal(label(node, "a"), text("b"))), 1, `!node["a"] == "b"`},
		{not(in(label(node, "a"), set(text("b")))), 1, `!node["a"] in {"b"}`},
		{and(equal(num(1), num(2)), or(in(num(1), set()), yes)), 1, "1 == 2 && (1 in {} || true)"},
		{not(tolerated("")), 1, `!tolerated("")`},
	} {
		expectText(t, list(c.twig), c.nest, c.text)
	}
	for _, kind := range []api.Kind{api.KAnd, api.KOr} {
		expectFault(t, list(of(kind, "", 0)), api.ErrTree, 0)
		expectFault(t, list(of(kind, "", 0, yes)), api.ErrTree, 1)
		for _, holder := range []api.Kind{api.KAnd, api.KOr, api.KNot} {
			expectFault(t, list(of(holder, "", 0, of(kind, "", 0, yes), yes)), api.ErrTree, 1)
		}
	}
}

// withText are trees in which the text s stands on a part of each kind that has one, each with the bytes round it.
func withText(s string) map[string]twig {
	return map[string]twig{
		"near(Q, true)":       near(s, yes),
		"apart(Q, true)":      apart(s, yes),
		"tolerated(Q)":        tolerated(s),
		"Q == 1":              equal(text(s), num(1)),
		"1 in {Q, 2}":         in(num(1), set(text(s), num(2))),
		"node[Q] == 1":        equal(label(node, s), num(1)),
		"1 == pod.cap(Q)":     equal(num(1), capacity(pod, s)),
		"count(Q, true) == 1": equal(count(s, yes), num(1)),
	}
}

// P13.1, P13.3, P13.4: texts of any bytes, and of up to 127 of them.
func TestAnyBytes(t *testing.T) {
	texts := []string{"", "a", "true", `"`, `\`, `\x41`, "\n\t\r", "#", " && ", "\u00e9", "\xff\xfe", strings.Repeat("a", 127), strings.Repeat("\x00", 127), strings.Repeat(`"`, 127)}
	for b := range 256 {
		texts = append(texts, string([]byte{byte(b)}), string([]byte{'a', byte(b), byte(b), 'n'}))
	}
	for _, s := range texts {
		for form, w := range withText(s) {
			_, want, _, _ := model(list(w))
			if want != strings.Replace(form, "Q", lex.Quote(s), 1) {
				t.Fatalf("%q: the model's text is %q", form, want)
			}
			check(t, list(w))
		}
	}
	expectText(t, list(tolerated("a\"\x00\xff\\\n")), 0, `tolerated("a\"\x00\xff\\\n")`)
	expectText(t, list(near("\t \r\x7f~", yes)), 1, `near("\t \r\x7f~", true)`)
}

// P13.3: numbers, with no nought and no mark that isn't asked for.
func TestNumbers(t *testing.T) {
	for _, n := range []int{0, 1, -1, 9, 10, -10, 100, 1000000, -123456789, math.MaxInt32, math.MinInt32, 999999999999999998, 999999999999999999, -999999999999999999, 100000000000000000} {
		s := strconv.Itoa(n)
		expectText(t, list(equal(num(n), num(n))), 0, s+" == "+s)
		expectText(t, list(in(num(0), set(num(n), num(n)))), 0, "0 in {"+s+", "+s+"}")
		expectText(t, list(not(equal(num(n), integer(num(n))))), 2, "!"+s+" == int("+s+")")
	}
	expectText(t, list(cmp(num(-999999999999999999), api.CmpLe, num(999999999999999999))), 0, "-999999999999999999 <= 999999999999999999")
}

// P13.3: sets of no, one, two and 64 kids.
func TestSets(t *testing.T) {
	expectText(t, list(in(set(), set())), 0, "{} in {}")
	expectText(t, list(in(set(num(3)), set(text("")))), 0, `{3} in {""}`)
	expectText(t, list(in(num(3), set(text("b"), num(1), text("b")))), 0, `3 in {"b", 1, "b"}`)
	expectText(t, list(in(num(3), set(many(64, num(1))...))), 0, "3 in {"+strings.Repeat("1, ", 63)+"1}")
	expectText(t, list(in(set(many(64, text("b"))...), num(3))), 0, "{"+strings.Repeat(`"b", `, 63)+`"b"} in 3`)
}

// sized is a tree whose text has just so many bytes: trues, and one text that fills the rest.
func sized(n int, fill byte) twig {
	kids := many((n-17-100)/8+1, yes)
	left := n - (8*len(kids) - 4) - 17
	if fill == 0 { // four bytes each as they are written
		return or(append(kids, tolerated(strings.Repeat("\x00", left/4)+strings.Repeat("a", left%4)))...)
	}
	return or(append(kids, tolerated(strings.Repeat(string(fill), left)))...)
}

// P13.3, P13.4: texts of 4095, 4096 and 4097 bytes, by what stands in them and by what stands round them.
func TestLong(t *testing.T) {
	for _, n := range []int{4000, 4090, 4095, 4096, 4097, 4098, 4105, 5000, 7000} {
		for _, fill := range []byte{'a', 0} {
			for _, w := range []struct {
				twig twig
				nest int
			}{
				{sized(n, fill), 0},
				{not(sized(n-3, fill)), 2},
				{near("zone", sized(n-14, fill)), 1},
				{apart("\x00", sized(n-15, fill)), 1},
				{equal(count("", sized(n-17, fill)), num(-7)), 1},
				{and(sized(n-11, fill), no), 1},
				{or(sized(n-19, fill), yes, not(yes)), 1},
			} {
				tree := list(w.twig)
				if s := modelText(tree, len(tree.Parts)-1); len(s) != n {
					t.Fatalf("%d bytes, want %d: %.30q", len(s), n, s)
				}
				if n > 4096 {
					expectLong(t, tree, w.nest)
					continue
				}
				check(t, tree)
				if s, err := show.Text(tree); len(s) != n || err != nil {
					t.Errorf("a text of %d bytes, %v, want %d", len(s), err, n)
				}
			}
		}
	}
	// 512 kids: 512 * 4 + 511 * 4 bytes; 513: 4100.
	expectText(t, list(or(many(512, yes)...)), 0, strings.Repeat("true || ", 511)+"true")
	expectLong(t, list(or(many(513, yes)...)), 0)
	expectLong(t, list(or(many(999, yes)...)), 0)
	expectLong(t, list(and(many(999, no)...)), 0)
}

// P13.3: a part that is too long alone, wherever it stands; the longest text that a valid tree may have is one of many long ones.
func TestLongParts(t *testing.T) {
	bytes := text(strings.Repeat("\xff", 127))
	great := set(many(64, bytes)...)
	expectLong(t, list(in(num(1), great)), 0)
	expectLong(t, list(in(great, num(1))), 0)
	expectLong(t, list(or(in(great, num(1)), yes)), 0)
	expectLong(t, list(near("z", not(in(great, num(1))))), 2)
	expectLong(t, list(or(slices.Concat(many(330, equal(bytes, bytes)), many(9, yes))...)), 0)
	eight := set(many(8, bytes)...) // 8 * 510 + 7 * 2 + 2 = 4096 bytes, and a text that holds it is longer
	expectLong(t, list(in(eight, num(1))), 0)
	less := set(append(many(7, bytes), text(strings.Repeat("\xff", 124)))...) // 4084 bytes
	for _, n := range []int{1000000, 10000000} {
		if s, err := show.Text(list(in(less, num(n)))); len(s) != 4088+len(strconv.Itoa(n)) || err != nil {
			t.Errorf("a text of %d bytes, %v", len(s), err)
		}
		check(t, list(in(less, num(n))))
	}
	expectLong(t, list(in(less, num(100000000))), 0)
}

// P13.1 to P13.3: what is too long is looked for behind every other fault.
func TestLongIsLast(t *testing.T) {
	long := or(many(600, yes)...)
	deep := long
	for range 31 {
		deep = not(deep)
	}
	expectLong(t, list(deep), 32)
	expectFault(t, list(not(deep)), api.ErrNest, 0)
	expectFault(t, list(or(long, integer(yes))), api.ErrTree, 602)
	expectFault(t, list(or(of(api.KTrue, "x", 0), long)), api.ErrTree, 0)
	expectFault(t, list(or(many(1000, yes)...)), api.ErrTree, 1000)
	tree := list(long)
	tree.Parts = append(tree.Parts, plain(api.KTrue))
	expectFault(t, tree, api.ErrTree, 601)
}
