package parse_test

import (
	"strconv"
	"strings"
	"testing"

	"berth/api"
)

// P12.1: conjunctions and disjunctions of one, two and three, and which binds closer.
func TestRows(t *testing.T) {
	expectTree(t, "true && false", "true @0; false @8; and [0 1] @5")
	expectTree(t, "true || false", "true @0; false @8; or [0 1] @5")
	expectTree(t, "true&&false&&true", "true @0; false @6; true @13; and [0 1 2] @4")
	expectTree(t, "true||false||true", "true @0; false @6; true @13; or [0 1 2] @4")
	expectTree(t, "true&&false||true", "true @0; false @6; and [0 1] @4; true @13; or [2 3] @11")
	expectTree(t, "true||false&&true", "true @0; false @6; true @13; and [1 2] @11; or [0 3] @4")
	expectTree(t, "true||false&&true||false", "true @0; false @6; true @13; and [1 2] @11; false @19; or [0 3 4] @4")
	expectTree(t, "true&&true||false&&false", "true @0; true @6; and [0 1] @4; false @12; false @19; and [3 4] @17; or [2 5] @10")
	expectTree(t, "1<2&&3>4", "num 1 @0; num 2 @2; cmp 3 [0 1] @1; num 3 @5; num 4 @7; cmp 5 [3 4] @6; and [2 5] @3")
}

// P12.1: groups at the left, in the midst and at the right: a group is a kid of its own, and leaves no part.
func TestGroups(t *testing.T) {
	for _, row := range []struct{ mark, name string }{{"&&", "and"}, {"||", "or"}} {
		tell := func(source, want string) {
			t.Helper()
			expectTree(t, strings.ReplaceAll(source, "&&", row.mark), strings.ReplaceAll(want, "and", row.name))
		}
		tell("(true && false) && true", "true @1; false @9; and [0 1] @6; true @19; and [2 3] @16")
		tell("true && (false && true)", "true @0; false @9; true @18; and [1 2] @15; and [0 3] @5")
		tell("true && (false && true) && true", "true @0; false @9; true @18; and [1 2] @15; true @27; and [0 3 4] @5")
		tell("(true && true) && (true && true)", "true @1; true @9; and [0 1] @6; true @19; true @27; and [3 4] @24; and [2 5] @15")
		tell("(true) && (false) && (true)", "true @1; false @11; true @22; and [0 1 2] @7")
		tell("((true && false))", "true @2; false @10; and [0 1] @7")
		tell("(((true) && (false)))", "true @3; false @13; and [0 1] @9")
	}
	expectTree(t, "(true || false) && true", "true @1; false @9; or [0 1] @6; true @19; and [2 3] @16")
	expectTree(t, "true && (false || true)", "true @0; false @9; true @18; or [1 2] @15; and [0 3] @5")
	expectTree(t, "true && (false || true) && true", "true @0; false @9; true @18; or [1 2] @15; true @27; and [0 3 4] @5")
	expectTree(t, "(true && false) || true", "true @1; false @9; and [0 1] @6; true @19; or [2 3] @16")
	expectTree(t, "(1 == 2)", "num 1 @1; num 2 @6; cmp 1 [0 1] @3")
	for _, source := range []string{"()", "true && ()", "near(\"a\", ())"} {
		expectFault(t, source, api.ErrToken, strings.Index(source, ")"))
	}
	expectFault(t, "(1) == 1", api.ErrToken, 2)
	expectFault(t, "1 == (1)", api.ErrToken, 5)
	expectFault(t, "(true) == true", api.ErrToken, 7)
	expectFault(t, "true)", api.ErrToken, 4)
	expectFault(t, "(true))", api.ErrToken, 6)
	expectFault(t, "(true]", api.ErrToken, 5)
	expectFault(t, "[true]", api.ErrToken, 0)
	expectFault(t, "(true)(true)", api.ErrToken, 6)
}

// P12.1: a negation takes the unit behind it: a whole comparison, a group, but no row.
func TestNegations(t *testing.T) {
	expectTree(t, "!1 == 2", "num 1 @1; num 2 @6; cmp 1 [0 1] @3; not [2] @0")
	expectTree(t, "!(1 == 2)", "num 1 @2; num 2 @7; cmp 1 [0 1] @4; not [2] @0")
	expectTree(t, "!1 notin {}", "num 1 @1; set @9; in 1 [0 1] @3; not [2] @0")
	expectTree(t, "!true && false", "true @1; not [0] @0; false @9; and [1 2] @6")
	expectTree(t, "!(true && false)", "true @2; false @10; and [0 1] @7; not [2] @0")
	expectTree(t, "true || !false && true", "true @0; false @9; not [1] @8; true @18; and [2 3] @15; or [0 4] @5")
	expectTree(t, "!!(!true)", "true @4; not [0] @3; not [1] @1; not [2] @0")
	expectTree(t, `!near("a", !true)`, "true @12; not [0] @11; near a [1] @1; not [2] @0")
	expectTree(t, `!tolerated("a")`, "tolerated a @1; not [0] @0")
	expectTree(t, "!1 != 2", "num 1 @1; num 2 @6; cmp 2 [0 1] @3; not [2] @0")
	expectFault(t, "!", api.ErrEnd, 1)
	expectFault(t, "!&& true", api.ErrToken, 1)
	expectFault(t, "true !", api.ErrToken, 5)
	expectFault(t, "1 == !1", api.ErrToken, 5)
	expectFault(t, "!= 1", api.ErrToken, 0)
	expectFault(t, "!!=", api.ErrToken, 1)
	expectFault(t, "!(!)", api.ErrToken, 3)
}

// P12.1: what stands where a row cannot begin, go on or end.
func TestWrongRows(t *testing.T) {
	for _, mark := range []string{"&&", "||"} {
		expectFault(t, mark, api.ErrToken, 0)
		expectFault(t, mark+" true", api.ErrToken, 0)
		expectFault(t, "true "+mark, api.ErrEnd, 7)
		expectFault(t, "true "+mark+" "+mark+" true", api.ErrToken, 8)
		expectFault(t, "(true "+mark+")", api.ErrToken, 8)
		expectFault(t, "true "+mark+" 1", api.ErrEnd, 9)
		expectFault(t, "true "+mark+" x", api.ErrToken, 8)
		expectFault(t, "1 "+mark+" 2", api.ErrToken, 2)
		expectFault(t, "1 == 1 "+mark+" 2 "+mark+" true", api.ErrToken, 12)
		expectFault(t, "true "+mark+" ) ", api.ErrToken, 8)
	}
	expectFault(t, "true &&|| true", api.ErrToken, 7)
	expectFault(t, "true , true", api.ErrToken, 5)
	expectFault(t, "true in true", api.ErrToken, 5)
	expectFault(t, "true and true", api.ErrToken, 5)
}

// samples: a condition and a term of each kind, and holes for conditions and terms within each other kind.
var (
	someConditions = []string{"true", "false", "!true", "true && false", "true || false", "1 < 2", "1 notin {}", `near("n", true)`, `apart("a", true)`, `tolerated("t")`}
	someTerms      = []string{`"x"`, "-5", "{}", `{1, "a"}`, `node["l"]`, "it.name", "pod.keys", "node.taints", `pod.cap("c")`, "int(7)", `count("k", true)`}
	conditionHoles = []string{"C", "!C", "!(C)", "(C)", "C && true", "true && C", "(C) && true", "true && (C)", "true && (C) && true", "C || true", "true || C", "(C) || true",
		"true || C || true", "true || (C)", `near("z", C)`, `apart("z", C)`}
	termHoles  = []string{"T == 1", "1 == T", "T in {}", "{} notin T", "!T <= T", "T > T && T < T"}
	withinTerm = []string{"int(T)", `count("z", C)`}
)

// filled: every way to put one of the pieces into each hole of one of the forms.
func filled(forms []string, hole string, pieces []string) []string {
	var out []string
	for _, form := range forms {
		if !strings.Contains(form, hole) {
			out = append(out, form)
			continue
		}
		for _, piece := range pieces {
			out = append(out, strings.ReplaceAll(form, hole, piece))
		}
	}
	return out
}

// P12.1, P12.2: each kind of part alone, and within every other, two and three deep.
func TestEachWithinEvery(t *testing.T) {
	inner := append(filled(filled(withinTerm, "C", someConditions), "T", someTerms), someTerms...)
	conds := append(filled(termHoles, "T", inner), someConditions...)
	for _, c := range filled(conditionHoles, "C", conds) {
		check(t, c)
	}
	twice := filled(conditionHoles, "C", filled(conditionHoles, "C", someConditions))
	for _, c := range twice {
		check(t, c)
	}
	deep := filled(termHoles[:3], "T", filled(withinTerm, "T", filled(withinTerm, "T", inner)))
	for _, c := range filled(deep, "C", someConditions[3:7]) {
		check(t, c)
	}
}

// P12.1: no word is kept back, and none has a meaning but where the grammar names it.
func TestWordsOfTheGrammar(t *testing.T) {
	words := []string{"true", "false", "near", "apart", "tolerated", "in", "notin", "node", "pod", "it", "name", "keys", "taints", "cap", "int", "count", "not", "True", "nodes", "_"}
	forms := []string{"W", "W == 1", "1 == W", "1 W 1", "1 in W", "node.W == 1", "W.name == 1", `W["a"] == 1`, "node[W] == 1", "{W} == 1", "{1, W} == 1", `W("a")`, `W("a") == 1`, `W("a", true)`,
		`W("a", true) == 1`, "W(1) == 1", `near(W, true)`, "near(\"a\", W)", "int(W) == 1", "node.cap(W) == 1", "tolerated(W)", "true W", "true W true", "!W", "(W)", "W W", "node W == 1", "W.W W W.W", "true && W",
		`"W" == node["W"]`, `near("W", "W" in {"W"})`, `node.cap("W") == 1`, `"W" W "W"`, "1 W", "W 1", "(true W", "1 == 1 W", "node.name W node.name", "node.W(\"a\") == 1"}
	for _, word := range words {
		for _, form := range forms {
			check(t, strings.ReplaceAll(form, "W", word))
		}
		expectTree(t, `"`+word+`" == it["`+word+`"]`, "text "+word+" @0; label "+word+" 3 @"+strconv.Itoa(len(word)+6)+"; cmp 1 [0 1] @"+strconv.Itoa(len(word)+3))
	}
	expectFault(t, "name == 1", api.ErrToken, 0)
	expectFault(t, "keys", api.ErrToken, 0)
	expectFault(t, `cap("x") == 1`, api.ErrToken, 0)
	expectFault(t, "in in in", api.ErrToken, 0)
	expectFault(t, "notin", api.ErrToken, 0)
	expectFault(t, "node.node == 1", api.ErrToken, 5)
	expectFault(t, "node.true == 1", api.ErrToken, 5)
	expectFault(t, "node.in in {}", api.ErrToken, 5)
	expectFault(t, "near.name == 1", api.ErrToken, 4)
	expectFault(t, "near", api.ErrEnd, 4)
	expectFault(t, `"true"`, api.ErrEnd, 6)
	expectFault(t, `"true" && true`, api.ErrToken, 7)
	expectFault(t, `"!" true`, api.ErrToken, 4)
	expectFault(t, `"(" true`, api.ErrToken, 4)
	expectFault(t, `1 "==" 1`, api.ErrToken, 2)
	expectFault(t, `1 "in" 1`, api.ErrToken, 2)
	expectFault(t, `node "[" "a" "]" == 1`, api.ErrToken, 5)
	expectFault(t, `node "." name == 1`, api.ErrToken, 5)
	expectFault(t, `"near"("a", true)`, api.ErrToken, 6)
	expectFault(t, `"node".name == 1`, api.ErrToken, 6)
	expectFault(t, `true "&&" true`, api.ErrToken, 5)
	expectFault(t, `("true" ")"`, api.ErrToken, 8)
	expectFault(t, `{"1" "," "2"} == 1`, api.ErrToken, 5)
	expectFault(t, `{1 "}" == 1`, api.ErrToken, 3)
}
