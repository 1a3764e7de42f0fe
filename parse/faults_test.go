package parse_test

import (
	"strings"
	"testing"

	"berth/api"
	"berth/lex"
)

// whole are sources in which each production of the grammar and each kind of token stands.
var whole = []string{
	"true",
	`!(node["zone"] == "a" && pod.cap("cpu") <= -7) || near("rack", it.name notin {"a", 2, "c"}) && false`,
	`apart("z", it["app"] != node["app"] || !tolerated("NoSchedule")) && count("z", true && (false)) >= int(pod["n"])`,
	`{} in node.taints || {1} notin it.keys && ((1 > 0)) && int(int("7")) < count("", !!true)`,
	`(true || false) && (node.name in {"n1"} || node.keys != pod.taints)`,
}

// vocabulary is every mark and word of the grammar, a text, a number, and a word that it doesn't name.
var vocabulary = strings.Fields(`&& || ! == != < <= > >= ( ) [ ] { } , . true false near apart tolerated in notin node pod it name keys taints cap int count "x" 5 word`)

// pieces: a source's tokens as they are written, each one alone.
func pieces(t *testing.T, source string) []string {
	t.Helper()
	tokens, err := lex.Scan(source)
	if err != nil {
		t.Fatal(source, err)
	}
	var list []string
	for _, token := range tokens[:len(tokens)-1] {
		list = append(list, source[token.At:token.End])
	}
	return list
}

// P12.1: a source cut short behind each of its tokens, and behind each byte: it ends where it cannot end, but where it can.
func TestCutShort(t *testing.T) {
	for _, source := range whole {
		check(t, source)
		for i := range source {
			check(t, source[:i])
			check(t, source[:i]+" # cut\n ")
			check(t, source[i:])
		}
		list := pieces(t, source)
		for i := range list {
			cut := strings.Join(list[:i], " ")
			check(t, cut)
			if _, _, f, _ := model(cut); f != nil && (f.Code != api.ErrEnd || f.At != len(cut)) {
				t.Errorf("%q: %v", cut, f)
			}
		}
	}
	for _, source := range []string{"", " ", "\n\t\r ", "#", "# true", "#\n", " # a\n# b\n ", "# \" & \x00"} {
		expectFault(t, source, api.ErrEnd, len(source))
		expectFault(t, "!"+source, api.ErrEnd, len(source)+1)
		expectFault(t, "true &&"+source, api.ErrEnd, len(source)+7)
		expectFault(t, "1"+source, api.ErrEnd, len(source)+1)
	}
}

// P12.1: each token put in the place of each other, ahead of each other, and taken out.
func TestEachInThePlaceOfEach(t *testing.T) {
	for _, source := range whole {
		list := pieces(t, source)
		for i := range list {
			ahead, behind := strings.Join(list[:i], " ")+" ", " "+strings.Join(list[i+1:], " ")
			check(t, ahead+behind)
			for _, other := range vocabulary {
				check(t, ahead+other+behind)
				check(t, ahead+other+" "+list[i]+behind)
			}
		}
		for _, other := range vocabulary {
			check(t, source+" "+other)
		}
	}
}

// P12.1: two tokens that change their places, and two that are put in anew.
func TestTwoChanged(t *testing.T) {
	source := `!(it["z"] in {1, "a"}) || near("k", true)`
	list := pieces(t, source)
	for i := range list {
		for j := range i {
			changed := append([]string(nil), list...)
			changed[i], changed[j] = changed[j], changed[i]
			check(t, strings.Join(changed, " "))
			for _, other := range vocabulary {
				changed[j] = other
				check(t, strings.Join(changed, " "))
			}
		}
	}
}

// P12.1: layer 11's faults come first, wherever they stand, and just as they are.
func TestLexFaultsFirst(t *testing.T) {
	lexFaults := []struct {
		source string
		code   api.Errno
		at     int
	}{
		{"&", api.ErrLexByte, 0}, {"$", api.ErrLexByte, 0}, {"\xff", api.ErrLexByte, 0}, {"\"\x01\"", api.ErrLexByte, 1}, {`"\q"`, api.ErrLexEscape, 1},
		{"007", api.ErrLexInt, 0}, {"1a", api.ErrLexInt, 0}, {`"` + strings.Repeat("a", 128) + `"`, api.ErrLexText, 0}, {`"a`, api.ErrLexOpen, 0},
	}
	own := []string{"true true", "x", ")", "1 == ", "", "(", strings.Repeat("!", 40), "{" + strings.Repeat("1,", 70), strings.Repeat("!1<2||", 300) + "true", "node.size", "true"}
	for _, f := range lexFaults {
		expectFault(t, f.source, f.code, f.at)
		for _, o := range own {
			expectFault(t, o+" "+f.source, f.code, len(o)+1+f.at)
			if f.code != api.ErrLexOpen {
				expectFault(t, f.source+" "+o, f.code, f.at)
			}
			expectFault(t, "x "+o+" "+f.source, f.code, len(o)+3+f.at)
		}
	}
	for _, o := range own {
		expectFault(t, o+strings.Repeat(" ", 4097), api.ErrLexLong, 4096)
		expectFault(t, "& "+o+strings.Repeat(" ", 4097), api.ErrLexLong, 4096)
	}
}

// P12.1: of two tokens at fault the left one is told, of whichever kind; of one token that cannot stand there first.
func TestFirstFault(t *testing.T) {
	nots, set := strings.Repeat("!", 32), "{"+strings.Repeat("1,", 64)
	expectFault(t, nots+"!", api.ErrNest, 32)
	expectFault(t, nots+"! x", api.ErrNest, 32)
	expectFault(t, nots+"x !", api.ErrToken, 32)
	expectFault(t, nots+") (", api.ErrToken, 32)
	expectFault(t, nots+"((", api.ErrNest, 32)
	expectFault(t, nots+"true (", api.ErrToken, 37)
	expectFault(t, nots+"true !", api.ErrToken, 37)
	expectFault(t, nots+"near(", api.ErrNest, 36)
	expectFault(t, nots+"near !", api.ErrToken, 37)
	expectFault(t, nots+"near x(", api.ErrToken, 37)
	expectFault(t, nots+"int(", api.ErrNest, 35)
	expectFault(t, nots+"int{", api.ErrToken, 35)
	expectFault(t, nots+"count(true", api.ErrNest, 37)
	expectFault(t, nots+"tolerated(x", api.ErrToken, 42)
	expectFault(t, nots+"tolerated((", api.ErrToken, 42)
	expectFault(t, nots+"node.cap(!", api.ErrToken, 41)
	expectFault(t, nots+"node(", api.ErrToken, 36)
	expectFault(t, nots+"1(", api.ErrToken, 33)
	expectFault(t, nots+"1 == (", api.ErrToken, 37)
	expectFault(t, nots+"1 == !", api.ErrToken, 37)
	expectFault(t, nots, api.ErrEnd, 32)
	expectFault(t, nots+"near", api.ErrEnd, 36)
	expectFault(t, set+"1", api.ErrSetLong, 129)
	expectFault(t, set+"x 1", api.ErrToken, 129)
	expectFault(t, set+"1 x", api.ErrSetLong, 129)
	expectFault(t, "x "+set+"1", api.ErrToken, 0)
	expectFault(t, set+"1} == 1 && "+nots+"!", api.ErrSetLong, 129)
	expectFault(t, nots+"! true && "+set+"1", api.ErrNest, 32)
	expectFault(t, "1 in "+set[:128]+"} && "+nots+"!", api.ErrNest, 5+128+5+32)
	expectFault(t, nots+set+"1", api.ErrSetLong, 161)
	expectFault(t, nots+"int("+set+"1", api.ErrNest, 35)
	expectFault(t, "true true x", api.ErrToken, 5)
	expectFault(t, "(true", api.ErrEnd, 5)
	expectFault(t, "(true x", api.ErrToken, 6)
}
