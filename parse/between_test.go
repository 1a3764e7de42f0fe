package parse_test

import (
	"slices"
	"strings"
	"testing"

	"berth/api"
	"berth/lex"
	"berth/parse"
)

// moved: the source's tokens with other things between them, and where each token's first byte has come to stand.
func moved(t *testing.T, source string, between func(i int) string) (string, map[int]int) {
	t.Helper()
	tokens, err := lex.Scan(source)
	if err != nil {
		t.Fatal(source, err)
	}
	out, to := "", map[int]int{}
	for i, token := range tokens {
		out += between(i)
		to[token.At] = len(out)
		out += source[token.At:token.End]
	}
	return out, to
}

// expectMoved: the changed source reads as the same tree, its offsets at the same tokens.
func expectMoved(t *testing.T, source, changed string, to map[int]int) {
	t.Helper()
	tree, offsets, err := parse.Parse(source)
	if err != nil {
		t.Fatalf("Parse(%q): %v", source, err)
	}
	want := make([]int, len(offsets))
	for i, at := range offsets {
		want[i] = to[at]
	}
	expect(t, changed, tree, want, nil)
	check(t, changed)
}

// P12.3: blanks and remarks between any two tokens, ahead of the first and behind the last, change nothing but the offsets.
func TestBlanksBetween(t *testing.T) {
	for _, source := range whole {
		for _, blank := range []string{" ", "\t", "\n", "\r\n", "#\n", " # && ! ) \"\n", "   #a\n#b\n"} {
			changed, to := moved(t, source, func(int) string { return blank })
			expectMoved(t, source, changed, to)
			n := len(pieces(t, source))
			for k := range n + 1 {
				changed, to = moved(t, source, func(i int) string {
					if i == k {
						return blank + " "
					}
					return " "
				})
				expectMoved(t, source, changed, to)
			}
		}
		changed, to := moved(t, source, func(i int) string { return strings.Repeat(" ", i%3+1) })
		expectMoved(t, source, changed+"# end", to)
	}
}

// P12.3: between a word and another, a number or a text nothing need stand, where the tokens stay what they are.
func TestNothingBetween(t *testing.T) {
	expectTree(t, `"a"in{}`, "text a @0; set @5; in [0 1] @3")
	expectTree(t, `it["a"]in{"b"}&&!true||1==-1`, "label a 3 @0; text b @10; set [1] @9; in [0 2] @7; true @17; not [4] @16; and [3 5] @14; num 1 @23; num -1 @26; cmp 1 [7 8] @24; or [6 9] @21")
	expectFault(t, "truetrue", api.ErrToken, 0)
	expectFault(t, "true true", api.ErrToken, 5)
	expectFault(t, "1in2", api.ErrLexInt, 0)
	expectFault(t, "t rue", api.ErrToken, 0)
	expectFault(t, "node.na me == 1", api.ErrToken, 5)
	expectFault(t, "1 = = 1", api.ErrLexByte, 2)
	expectFault(t, "1 < = 1", api.ErrLexByte, 4)
	expectFault(t, "! = 1", api.ErrLexByte, 2)
}

// units: all runs of tokens, from one to behind another, that the grammar takes for a production.
func units(t *testing.T, source, production string) [][2]int {
	t.Helper()
	tokens, err := lex.Scan(source)
	if err != nil {
		t.Fatal(err)
	}
	last := tokens[len(tokens)-1]
	var runs [][2]int
	for i := range tokens {
		for j := i + 1; j < len(tokens); j++ {
			run := append(slices.Clone(tokens[i:j]), last)
			if stands(production, run) == len(run) {
				runs = append(runs, [2]int{i, j})
			}
		}
	}
	return runs
}

// P12.3: a group put round any unit of a source, once and twice, changes nothing but the offsets.
func TestGroupRoundUnit(t *testing.T) {
	for _, source := range append([]string{"!!true", "1 == 2", "!1 in {} && (true || !false)"}, whole...) {
		runs := units(t, source, "UNIT")
		if len(runs) == 0 {
			t.Errorf("%q has no unit", source)
		}
		for _, run := range runs {
			for _, n := range []int{1, 2, 9} {
				changed, to := moved(t, source, func(i int) string {
					switch i {
					case run[0]:
						return " " + strings.Repeat("(", n)
					case run[1]:
						return strings.Repeat(")", n) + " "
					}
					return " "
				})
				expectMoved(t, source, changed, to)
			}
		}
	}
}

// P12.3: so do groups round all units at once, and round the whole.
func TestGroupRoundWhole(t *testing.T) {
	for _, source := range whole {
		runs := units(t, source, "UNIT")
		last := len(pieces(t, source))
		for _, n := range []int{1, 3, 20} {
			changed, to := moved(t, source, func(i int) string {
				switch i {
				case 0:
					return strings.Repeat("( ", n)
				case last:
					return strings.Repeat(" )", n)
				}
				return " "
			})
			expectMoved(t, source, changed, to)
		}
		changed, to := moved(t, source, func(i int) string {
			s := ""
			for _, run := range runs {
				if run[1] == i {
					s += ")"
				}
			}
			for _, run := range runs {
				if run[0] == i {
					s += "("
				}
			}
			return " " + s + " "
		})
		expectMoved(t, source, changed, to)
	}
}

// P12.1: a group round what is no unit is another tree, or none.
func TestGroupRoundOther(t *testing.T) {
	expectTree(t, "true && (true && true)", "true @0; true @9; true @17; and [1 2] @14; and [0 3] @5")
	expectTree(t, "true && true && true", "true @0; true @8; true @16; and [0 1 2] @5")
	expectTree(t, "(true || true) && true", "true @1; true @9; or [0 1] @6; true @18; and [2 3] @15")
	expectTree(t, "true || true && true", "true @0; true @8; true @16; and [1 2] @13; or [0 3] @5")
	expectFault(t, "(node.name) == 1", api.ErrToken, 10)
	expectFault(t, "node.name in ({})", api.ErrToken, 13)
	expectFault(t, "(!) true", api.ErrToken, 2)
	expectFault(t, "int((1)) == 1", api.ErrToken, 4)
	expectFault(t, `near(("a"), true)`, api.ErrToken, 5)
}
