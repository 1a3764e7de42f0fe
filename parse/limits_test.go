package parse_test

import (
	"strconv"
	"strings"
	"testing"

	"berth/api"
)

// opener is something that nests: what stands ahead of the inside, where in that the token is that opens, and what stands behind the inside.
type opener struct {
	ahead  string
	mark   int
	behind string
}

var openers = []opener{
	{"(", 0, ")"},
	{"!", 0, ""},
	{`near("z", `, 4, ")"},
	{`apart("z", `, 5, ")"},
	{`count("z", `, 5, ") == 1"},
	{`1 in count("z", `, 10, ")"},
}

// nested puts so many of the openers, one after the other, round the inside; at is where the last one's token stands.
func nested(n int, inside string, list ...opener) (source string, at int) {
	tail := ""
	for i := range n {
		o := list[i%len(list)]
		at = len(source) + o.mark
		source += o.ahead
		tail = o.behind + tail
	}
	return source + inside + tail, at
}

// expectNest: a source with n openers is read just if they are no more than 32.
func expectNest(t *testing.T, n int, inside string, list ...opener) {
	t.Helper()
	source, _ := nested(n, inside, list...)
	if n <= 32 {
		check(t, source)
		if _, _, f, greatest := model(source); f != nil || greatest != n {
			t.Errorf("%q: %v, a nest of %d, want %d", show(source), f, greatest, n)
		}
		return
	}
	_, at := nested(33, inside, list...)
	expectFault(t, source, api.ErrNest, at)
}

// P12.1: every nest from 31 to 33, and one far beyond, by each opener and by all of them mixed.
func TestNest(t *testing.T) {
	for _, n := range []int{0, 1, 31, 32, 33, 34, 100} {
		for _, o := range openers {
			expectNest(t, n, "true", o)
			expectNest(t, n, "1 < 2", o)
			for _, other := range openers {
				expectNest(t, n, "true", o, other)
			}
		}
		expectNest(t, n, "true", openers...)
		expectNest(t, n, `node["a"] in {1, 2}`, openers...)
	}
	for _, n := range []int{31, 32, 33} {
		ints := strings.Repeat("int(", n)
		source := ints + "1" + strings.Repeat(")", n) + " == 2"
		if n <= 32 {
			expectSize(t, source, n+3)
			continue
		}
		expectFault(t, source, api.ErrNest, 32*4+3)
		expectFault(t, ints, api.ErrNest, 32*4+3)
	}
	for k := range 33 {
		for _, o := range openers {
			most, _ := nested(k, strings.Repeat("int(", 32-k)+"1"+strings.Repeat(")", 32-k)+" < 2", o)
			check(t, most)
			ahead, _ := nested(k, "", o)
			over, _ := nested(k, strings.Repeat("int(", 33-k)+"1"+strings.Repeat(")", 33-k)+" < 2", o)
			expectFault(t, over, api.ErrNest, len(strings.TrimSuffix(ahead, strings.Repeat(o.behind, k)))+(32-k)*4+3)
		}
	}
	expectFault(t, strings.Repeat("(", 4096), api.ErrNest, 32)
	expectFault(t, strings.Repeat("!", 4096), api.ErrNest, 32)
	expectFault(t, strings.Repeat("!(", 2048), api.ErrNest, 32)
}

// P12.1: a nest ends with what opened it: a group with its end, a negation with its unit.
func TestNestEnds(t *testing.T) {
	nots := strings.Repeat("!", 32)
	groups, ends := strings.Repeat("(", 31), strings.Repeat(")", 31)
	for _, o := range openers {
		thirtyOne, _ := nested(31, "true", o)
		thirtyTwo, _ := nested(32, "true", o)
		for _, mark := range []string{" && ", " || "} {
			check(t, thirtyTwo+mark+thirtyTwo+mark+thirtyTwo)
			check(t, "("+thirtyOne+mark+thirtyOne+")")
			check(t, "!("+nots[:30]+"true"+mark+nots[:30]+"true)")
			over := "(" + thirtyOne + mark
			_, at := nested(32, "", o)
			expectFault(t, over+thirtyTwo+")", api.ErrNest, len(over)+at)
		}
	}
	expectTree(t, nots[:1]+"true && "+nots[:1]+"true", "true @1; not [0] @0; true @10; not [2] @9; and [1 3] @6")
	check(t, nots+"true && "+nots+"true")
	check(t, nots+"1 < 2 && int(1) < int(2)")
	expectFault(t, nots+"1 < int(2)", api.ErrNest, 32+7)
	expectFault(t, nots+"(true)", api.ErrNest, 32)
	check(t, nots[:31]+"(true) && "+nots+"true")
	expectFault(t, nots[:31]+"(!true) && true", api.ErrNest, 32)
	check(t, nots[:31]+"int(1) < int(2)")
	check(t, nots[:31]+"int(1) in int(2) && "+nots[:31]+"(true)")
	check(t, groups+"(true) && (true)"+ends)
	expectFault(t, groups+"(true && (true))"+ends, api.ErrNest, 31+9)
	check(t, groups+"int(1) == int(2) || near(\"a\", true) && !true"+ends)
}

// P12.1: the brackets of labels and sets, and the parentheses of tolerated and cap, count nothing.
func TestBracketsThatCountNothing(t *testing.T) {
	for _, inside := range []string{`tolerated("a")`, `node.cap("a") == 1`, `1 == pod.cap("a")`, `it["a"] == 1`, "1 in {}", `{1, 2} == {"a"}`, `node["a"] in {1} && tolerated("") && node.cap("") < it["x"]`} {
		for _, o := range openers {
			expectNest(t, 32, inside, o)
			expectNest(t, 33, inside, o)
		}
		expectNest(t, 32, inside, openers...)
	}
	source := strings.Repeat("int(", 32) + `node.cap("a")` + strings.Repeat(")", 32) + " == {1}"
	expectSize(t, source, 36)
	check(t, strings.Repeat(`tolerated("a") && node.cap("b") == it["c"] && `, 40)+"true")
}

// P12.1: sets of 63 to 66 elements, of texts, of numbers and of both; in each place of a source.
func TestSetLong(t *testing.T) {
	for _, element := range []string{"1", `"a"`, `1, "b"`} {
		list := strings.Split(strings.TrimSuffix(strings.Repeat(element+", ", 70), ", "), ", ")
		for _, n := range []int{63, 64, 65, 66, 70} {
			set := "{" + strings.Join(list[:n], ", ") + "}"
			for _, form := range []string{"S == 1", "1 in S", "int(S) < 2", "true && !(1 in S)", "1 in {2} && 1 in S && 1 in {}", "S == S"} {
				source := strings.ReplaceAll(form, "S", set)
				if n <= 64 {
					check(t, source)
					if _, _, f, _ := model(source); f != nil {
						t.Errorf("%q: %v", show(source), f)
					}
					continue
				}
				at := strings.Index(source, set) + len("{"+strings.Join(list[:64], ", ")+", ")
				expectFault(t, source, api.ErrSetLong, at)
			}
		}
	}
	sixtyFour := "{" + strings.Repeat("1,", 63) + "1"
	expectSize(t, "1 in "+sixtyFour+"}", 67)
	expectFault(t, sixtyFour, api.ErrEnd, 128)
	expectFault(t, sixtyFour+",", api.ErrEnd, 129)
	expectFault(t, sixtyFour+",}", api.ErrToken, 129)
	expectFault(t, sixtyFour+",,", api.ErrToken, 129)
	expectFault(t, sixtyFour+" 1", api.ErrToken, 129)
	expectFault(t, sixtyFour+",x", api.ErrToken, 129)
	expectFault(t, sixtyFour+",{", api.ErrToken, 129)
	expectFault(t, sixtyFour+",1", api.ErrSetLong, 129)
	expectFault(t, sixtyFour+`,""`, api.ErrSetLong, 129)
	expectFault(t, sixtyFour+",1 x", api.ErrSetLong, 129)
	expectFault(t, sixtyFour+",1,1,1", api.ErrSetLong, 129)
}

// P12.1: trees of 999, 1000 and 1001 parts and of many more; the offset that is told is that of the part behind the thousandth.
func TestLarge(t *testing.T) {
	trues := func(n int) string { return strings.TrimSuffix(strings.Repeat("true||", n), "||") }
	nots := func(n int) string { return strings.TrimSuffix(strings.Repeat("!1<2||", n), "||") }
	expectSize(t, nots(249)+"||!true", 999)
	expectSize(t, nots(249)+"||true||true||true", 1000)
	expectSize(t, nots(249)+"||1<2", 1000)
	expectSize(t, nots(200)+"||"+trues(199), 1000)
	expectFault(t, nots(250), api.ErrLarge, 4)
	expectFault(t, nots(200)+"||"+trues(200), api.ErrLarge, 4)
	expectFault(t, nots(300)+"||true", api.ErrLarge, 6*250+1)
	expectFault(t, "!("+nots(249)+"||1<2)", api.ErrLarge, 0)
	expectFault(t, "true||("+nots(249)+"||true||true)", api.ErrLarge, 4)
	expectFault(t, "true&&("+nots(249)+"||true||true||true)", api.ErrLarge, 11)
	expectFault(t, " \n"+nots(249)+"||true||!1<2", api.ErrLarge, 2+6*249+6)
	expectFault(t, " \n"+nots(249)+"||true||true||!true", api.ErrLarge, 6)
	expectFault(t, "true # a\n||"+nots(250), api.ErrLarge, 11+6*249)
	sets := strings.TrimSuffix(strings.Repeat("1 in {"+strings.Repeat("1,", 63)+"1}&&", 14), "&&")
	expectSize(t, sets, 14*67+1)
	rest := func(n int) string { return "&&{" + strings.Repeat("1,", n-1) + "1}==1" }
	expectSize(t, sets+rest(58), 1000)
	expectFault(t, sets+rest(59), api.ErrLarge, 134)
	expectFault(t, sets+rest(60), api.ErrLarge, len(sets)+2+2*60+1)
	expectFault(t, sets+rest(64), api.ErrLarge, len(sets)+3+2*62)
	for n := 995; n < 1006; n++ {
		check(t, nots((n-1)/4)+strings.Repeat("||true", (n-1)%4))
		check(t, "!("+nots((n-2)/4)+strings.Repeat("||true", (n-2)%4)+")")
		check(t, `near("z",`+nots((n-2)/4)+strings.Repeat("||true", (n-2)%4)+")")
		check(t, `count("z",`+nots((n-4)/4)+strings.Repeat("||true", (n-4)%4)+")>1")
	}
}

// P12.1: a tree that is too large is told last: behind every fault of a token, wherever that stands.
func TestLargeIsLast(t *testing.T) {
	large := strings.Repeat("!1<2||", 300)
	expectFault(t, large, api.ErrEnd, 1800)
	expectFault(t, large+"x", api.ErrToken, 1800)
	expectFault(t, large+"true true", api.ErrToken, 1805)
	expectFault(t, large+strings.Repeat("!", 33), api.ErrNest, 1832)
	expectFault(t, large+"{"+strings.Repeat("1,", 65), api.ErrSetLong, 1801+128)
	expectFault(t, large+"true &", api.ErrLexByte, 1805)
	expectFault(t, large+strings.Repeat(" ", 4097), api.ErrLexLong, 4096)
	expectFault(t, large+"true", api.ErrLarge, 1501)
	expectFault(t, large+"true"+strings.Repeat(" ", 4096-1804), api.ErrLarge, 1501)
}

// P12.1: the longest sources.
func TestLongSources(t *testing.T) {
	expectSize(t, strings.Repeat("true&&", 682)+"true", 684)
	expectTree(t, strings.Repeat(" ", 4092)+"true", "true @4092")
	expectTree(t, "true"+strings.Repeat("#", 4092), "true @0")
	expectFault(t, strings.Repeat(" ", 4096), api.ErrEnd, 4096)
	expectFault(t, strings.Repeat(" ", 4097), api.ErrLexLong, 4096)
	expectFault(t, "true"+strings.Repeat(" ", 4093), api.ErrLexLong, 4096)
	expectFault(t, strings.Repeat("x", 4096), api.ErrToken, 0)
	expectFault(t, strings.Repeat(" ", 4095)+"1", api.ErrEnd, 4096)
	expectFault(t, strings.Repeat(" ", 4095)+")", api.ErrToken, 4095)
	expectFault(t, "{"+strings.Repeat("1,", 2047), api.ErrSetLong, 129)
	text := strings.Repeat("a", 127)
	expectTree(t, `"`+text+`"==it["`+text+`"]`, "text "+text+" @0; label "+text+" 3 @131; cmp 1 [0 1] @129")
	expectFault(t, `"`+text+`a"==1`, api.ErrLexText, 0)
	expectTree(t, "1 == "+strconv.Itoa(999999999999999999), "num 1 @0; num 999999999999999999 @5; cmp 1 [0 1] @2")
	expectFault(t, "1 == 1000000000000000000", api.ErrLexInt, 5)
}
