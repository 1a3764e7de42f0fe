package parse_test

import (
	"strconv"
	"strings"
	"testing"

	"berth/api"
)

// P12.1: the chapter's examples, and those of DOC.md that speak of this layer.
func TestExamples(t *testing.T) {
	expectTree(t, "true", "true @0")
	expectFault(t, "!(a)", api.ErrToken, 2)
	expectTree(t, `node["z"] == "a" && !true`, "label z 2 @0; text a @13; cmp 1 [0 1] @10; true @21; not [3] @20; and [2 4] @17")
	expectTree(t, "true && (false && true) || false", "true @0; false @9; true @18; and [1 2] @15; and [0 3] @5; false @27; or [4 5] @24")
	expectTree(t, `near("zone", it.name in {"a", 2})`, "name 3 @13; text a @25; num 2 @30; set [1 2] @24; in [0 3] @21; near zone [4] @0")
	expectFault(t, "", api.ErrEnd, 0)
	expectFault(t, "true true", api.ErrToken, 5)
	expectFault(t, "node.size == 1", api.ErrToken, 5)
	expectFault(t, `node["z"]`, api.ErrEnd, 9)
	expectFault(t, "(true", api.ErrEnd, 5)
	expectFault(t, `"a" == "b" == "c"`, api.ErrToken, 11)
	expectFault(t, "int(true) == 1", api.ErrToken, 4)
	expectFault(t, "{1,} == 1", api.ErrToken, 3)
	expectFault(t, `tolerated("x" "y"`, api.ErrToken, 14)
	expectFault(t, "true & false", api.ErrLexByte, 5)
	expectFault(t, strings.Repeat("!", 33)+"true", api.ErrNest, 32)
	expectTree(t, strings.Repeat("(", 32)+"true"+strings.Repeat(")", 32), "true @32")
	expectFault(t, "true && ", api.ErrEnd, 8)
	expectTree(t, `!(node["a"]=="1"&&true)||(false)`, "label a 2 @2; text 1 @13; cmp 1 [0 1] @11; true @18; and [2 3] @16; not [4] @0; false @26; or [5 6] @23")
}

// P12.1: each condition that stands alone.
func TestConditions(t *testing.T) {
	expectTree(t, "true", "true @0")
	expectTree(t, "false", "false @0")
	expectTree(t, "!true", "true @1; not [0] @0")
	expectTree(t, "! ! false", "false @4; not [0] @2; not [1] @0")
	expectTree(t, ` tolerated("NoSchedule")`, "tolerated NoSchedule @1")
	expectTree(t, `tolerated("")`, "tolerated @0")
	expectTree(t, `near("zone", true)`, "true @13; near zone [0] @0")
	expectTree(t, `apart ( "" , true && false ) `, "true @13; false @21; and [0 1] @18; apart [2] @0")
	expectTree(t, `near("a", apart("b", !near("c", false)))`, "false @32; near c [0] @22; not [1] @21; apart b [2] @10; near a [3] @0")
	expectTree(t, `"a" == "b"`, "text a @0; text b @7; cmp 1 [0 1] @4")
	expectTree(t, "{} in {}", "set @0; set @6; in [0 1] @3")
}

// P12.1: each comparison, with its number and its offset, of every kind of token.
func TestComparisons(t *testing.T) {
	for i, mark := range []string{"==", "!=", "<", "<=", ">", ">="} {
		expectTree(t, "1 "+mark+" 2", "num 1 @0; num 2 @"+strconv.Itoa(3+len(mark))+"; cmp "+strconv.Itoa(1+i)+" [0 1] @2")
		check(t, "1"+mark+"2")
		check(t, "1"+mark+"-2")
		check(t, `"x"`+mark+`"y"`)
		check(t, "node.name"+mark+"{}")
		expectFault(t, "1 "+mark, api.ErrEnd, 2+len(mark))
		expectFault(t, mark+" 1", api.ErrToken, 0)
		expectFault(t, "1 "+mark+mark+" 2", api.ErrToken, 2+len(mark))
		expectFault(t, "true "+mark+" true", api.ErrToken, 5)
		expectFault(t, "1 "+mark+" true", api.ErrToken, 3+len(mark))
		expectFault(t, "1 "+mark+" 2 "+mark+" 3", api.ErrToken, 5+len(mark))
	}
	expectTree(t, "1 in 2", "num 1 @0; num 2 @5; in [0 1] @2")
	expectTree(t, "1 notin 2", "num 1 @0; num 2 @8; in 1 [0 1] @2")
	expectTree(t, `"a"in{"b"}`, "text a @0; text b @6; set [1] @5; in [0 2] @3")
	expectTree(t, `"a"notin{-7}`, "text a @0; num -7 @9; set [1] @8; in 1 [0 2] @3")
	expectFault(t, "1 in", api.ErrEnd, 4)
	expectFault(t, "1 not in 2", api.ErrToken, 2)
	expectFault(t, "1 in 2 in 3", api.ErrToken, 7)
	expectFault(t, "1 in 2 == 3", api.ErrToken, 7)
	expectFault(t, "1 == 2 in 3", api.ErrToken, 7)
	expectFault(t, "1 In 2", api.ErrToken, 2)
	expectFault(t, "1 2", api.ErrToken, 2)
}

// P12.1: each term; its offset is that of the token with which it begins.
func TestTerms(t *testing.T) {
	expectTree(t, `"" == "a\x00\n"`, "text @0; text a\x00\n @6; cmp 1 [0 1] @3")
	expectTree(t, "0 < -999999999999999999", "num @0; num -999999999999999999 @4; cmp 3 [0 1] @2")
	expectTree(t, "999999999999999999>1", "num 999999999999999999 @0; num 1 @19; cmp 5 [0 1] @18")
	expectTree(t, "int(1)==int ( int(\"2\") )", "num 1 @4; int [0] @0; text 2 @18; int [2] @14; int [3] @8; cmp 1 [1 4] @6")
	expectTree(t, "int({})<1", "set @4; int [0] @0; num 1 @8; cmp 3 [1 2] @7")
	expectTree(t, `count("zone", true || false) >= 3`, "true @14; false @22; or [0 1] @19; count zone [2] @0; num 3 @32; cmp 6 [3 4] @29")
	expectTree(t, `int(count("", 1 == 1)) in {}`, "num 1 @14; num 1 @19; cmp 1 [0 1] @16; count [2] @4; int [3] @0; set @26; in [4 5] @23")
}

// P12.1: who with each of its endings.
func TestWho(t *testing.T) {
	for _, w := range []struct{ word, side string }{{"node", "2"}, {"pod", "1"}, {"it", "3"}} {
		expectTree(t, w.word+`["a"]<0`, "label a "+w.side+" @0; num @"+strconv.Itoa(len(w.word)+6)+"; cmp 3 [0 1] @"+strconv.Itoa(len(w.word)+5))
		for _, field := range []string{"name", "keys", "taints"} {
			end := len(w.word) + 1 + len(field)
			expectTree(t, w.word+"."+field+">=0", field+" "+w.side+" @0; num @"+strconv.Itoa(end+2)+"; cmp 6 [0 1] @"+strconv.Itoa(end))
			expectTree(t, "1 in "+w.word+" . "+field, "num 1 @0; "+field+" "+w.side+" @5; in [0 1] @2")
			expectFault(t, w.word+"."+field, api.ErrEnd, end)
			expectFault(t, w.word+"."+field+`("a") == 1`, api.ErrToken, end)
			expectFault(t, w.word+"."+field+`["a"] == 1`, api.ErrToken, end)
			expectFault(t, w.word+"."+field+`.name == 1`, api.ErrToken, end)
			expectFault(t, w.word+" "+field+" == 1", api.ErrToken, len(w.word)+1)
		}
		expectTree(t, "0 != "+w.word+`.cap("cpu")`, "num @0; cap cpu "+w.side+" @5; cmp 2 [0 1] @2")
		expectTree(t, "0 != "+w.word+` . cap ( "" )`, "num @0; cap "+w.side+" @5; cmp 2 [0 1] @2")
		at := len(w.word)
		expectFault(t, w.word, api.ErrEnd, at)
		expectFault(t, w.word+"== 1", api.ErrToken, at)
		expectFault(t, w.word+`("a") == 1`, api.ErrToken, at)
		expectFault(t, w.word+`[name] == 1`, api.ErrToken, at+1)
		expectFault(t, w.word+`[1] == 1`, api.ErrToken, at+1)
		expectFault(t, w.word+`[] == 1`, api.ErrToken, at+1)
		expectFault(t, w.word+`["a") == 1`, api.ErrToken, at+4)
		expectFault(t, w.word+`."name" == 1`, api.ErrToken, at+1)
		expectFault(t, w.word+`.["a"] == 1`, api.ErrToken, at+1)
		expectFault(t, w.word+`.cap == 1`, api.ErrToken, at+5)
		expectFault(t, w.word+`.cap["a"] == 1`, api.ErrToken, at+4)
		expectFault(t, w.word+`.cap() == 1`, api.ErrToken, at+5)
		expectFault(t, w.word+`.cap(1) == 1`, api.ErrToken, at+5)
		expectFault(t, w.word+`.cap("a", true) == 1`, api.ErrToken, at+8)
		expectFault(t, w.word+`.Name == 1`, api.ErrToken, at+1)
	}
}

// P12.1: sets of no, one and more elements, and what is no set.
func TestSets(t *testing.T) {
	expectTree(t, "1 in { }", "num 1 @0; set @5; in [0 1] @2")
	expectTree(t, "1 in {1}", "num 1 @0; num 1 @6; set [1] @5; in [0 2] @2")
	expectTree(t, `1 in {"b", "a", "b", 3}`, "num 1 @0; text b @6; text a @11; text b @16; num 3 @21; set [1 2 3 4] @5; in [0 5] @2")
	expectTree(t, `{1}=={""}`, "num 1 @1; set [0] @0; text @6; set [2] @5; cmp 1 [1 3] @3")
	expectFault(t, "{,} == 1", api.ErrToken, 1)
	expectFault(t, "{,1} == 1", api.ErrToken, 1)
	expectFault(t, "{1,,2} == 1", api.ErrToken, 3)
	expectFault(t, "{1 2} == 1", api.ErrToken, 3)
	expectFault(t, "{{}} == 1", api.ErrToken, 1)
	expectFault(t, "{1,{}} == 1", api.ErrToken, 3)
	expectFault(t, "{true} == 1", api.ErrToken, 1)
	expectFault(t, "{node.name} == 1", api.ErrToken, 1)
	expectFault(t, "{int(1)} == 1", api.ErrToken, 1)
	expectFault(t, "{(1)} == 1", api.ErrToken, 1)
	expectFault(t, "{1) == 1", api.ErrToken, 2)
	expectFault(t, "{1] == 1", api.ErrToken, 2)
	expectFault(t, "{", api.ErrEnd, 1)
	expectFault(t, "{1", api.ErrEnd, 2)
	expectFault(t, "{1,", api.ErrEnd, 3)
	expectFault(t, "{}", api.ErrEnd, 2)
	expectFault(t, "{}}", api.ErrToken, 2)
}
