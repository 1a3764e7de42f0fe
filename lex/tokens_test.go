package lex_test

import (
	"strings"
	"testing"

	"berth/api"
)

var marks = []string{"&&", "||", "!", "==", "!=", "<", "<=", ">", ">=", "(", ")", "[", "]", "{", "}", ",", "."}

// expectTokens: a source without a fault.
func expectTokens(t *testing.T, source string, list ...api.Token) {
	t.Helper()
	expect(t, source, append(list, end(len(source))), nil)
	check(t, source)
}

// expectFault: a source with a fault, and the tokens ahead of it.
func expectFault(t *testing.T, source string, code api.Errno, at int, ahead ...api.Token) {
	t.Helper()
	expect(t, source, ahead, wrong(code, at))
	check(t, source)
}

// P11.1, P11.3: the chapter's examples.
func TestExamples(t *testing.T) {
	expectTokens(t, "")
	expectTokens(t, `node["zone"]=="a b"`, word("node", 0), mark("[", 4), text("zone", 5, 11), mark("]", 11), mark("==", 12), text("a b", 14, 19))
	expectTokens(t, "!x!=-12", mark("!", 0), word("x", 1), mark("!=", 2), num(-12, 4, 7))
	expectTokens(t, "1-2", num(1, 0, 1), num(-2, 1, 3))
	expectTokens(t, "a # b\n.c", word("a", 0), mark(".", 6), word("c", 7))
	expectTokens(t, `"\x41\n"`, text("A\n", 0, 8))
	expectTokens(t, `""`, text("", 0, 2))
	expectFault(t, "a & b", api.ErrLexByte, 2, word("a", 0))
	expectFault(t, "a - b", api.ErrLexByte, 2, word("a", 0))
	expectFault(t, `x == "ab`, api.ErrLexOpen, 5, word("x", 0), mark("==", 2))
	expectFault(t, `"\q"`, api.ErrLexEscape, 1)
	expectFault(t, `"a\x4"`, api.ErrLexEscape, 2)
	expectFault(t, `"a\`, api.ErrLexEscape, 2)
	expectFault(t, " 007", api.ErrLexInt, 1)
	expectFault(t, "12ab", api.ErrLexInt, 0)
	expectFault(t, "1234567890123456789", api.ErrLexInt, 0)
	expectTokens(t, "-999999999999999999", num(-999999999999999999, 0, 19))
	expectFault(t, "a \"\n\"", api.ErrLexByte, 3, word("a", 0))
	expectFault(t, "\"a\n", api.ErrLexByte, 2)
}

// P11.1, P11.2: every kind of token, with blanks of each kind and remarks between them, and with none.
func TestEveryKind(t *testing.T) {
	expectTokens(t, `near("zone",int(it["gen"])>=-7)&&!true||node.cap("cpu")<3`,
		word("near", 0), mark("(", 4), text("zone", 5, 11), mark(",", 11), word("int", 12), mark("(", 15), word("it", 16), mark("[", 18),
		text("gen", 19, 24), mark("]", 24), mark(")", 25), mark(">=", 26), num(-7, 28, 30), mark(")", 30), mark("&&", 31), mark("!", 33),
		word("true", 34), mark("||", 38), word("node", 40), mark(".", 44), word("cap", 45), mark("(", 48), text("cpu", 49, 54), mark(")", 54), mark("<", 55), num(3, 56, 57))
	pieces := []string{`"a#b"`, "7", "-7", "in", "_", "&&", "<", `"\""`, "0", "}"}
	for _, between := range []string{" ", "\t", "\n", "\r", "\r\n", " \t \n", "#\n", "# \"a\" && $ \x00 é\n", " #a\n#b\n\t"} {
		source, list := between, []api.Token(nil)
		for _, p := range pieces {
			alone, f := modelToken(p, 0)
			if f != nil {
				t.Fatal(p, f)
			}
			alone.At, alone.End = len(source), len(source)+len(p)
			source, list = source+p+between, append(list, alone)
		}
		expectTokens(t, source, list...)
		expectTokens(t, strings.TrimSuffix(source, between), list...)
		check(t, strings.TrimPrefix(source, between))
	}
	check(t, strings.Join(pieces, ""))
}

// P11.1: sources in which nothing stands, and remarks: their ends, what they hide, and where a # begins none.
func TestBlanksAndRemarks(t *testing.T) {
	for _, source := range []string{" ", "\t", "\n", "\r", " \t\r\n", "#", "##", "#\n", "#a", "# \" & \\ \x00\xff", "#a\r#b\n#c", "\n\n#"} {
		expectTokens(t, source)
	}
	expectTokens(t, "a#", word("a", 0))
	expectTokens(t, "a#b", word("a", 0))
	expectTokens(t, "a#b\rc", word("a", 0))
	expectTokens(t, "a#b\nc", word("a", 0), word("c", 4))
	expectTokens(t, "1#2\n3", num(1, 0, 1), num(3, 4, 5))
	expectTokens(t, "<#\n==#\n", mark("<", 0), mark("==", 3))
	expectFault(t, "<#\n=#\n", api.ErrLexByte, 3, mark("<", 0))
}

// P11.1: a # within a text begins no remark, and one behind a text does.
func TestRemarkAndText(t *testing.T) {
	expectTokens(t, `"#"`, text("#", 0, 3))
	expectTokens(t, `"a # b"#"c`, text("a # b", 0, 7))
	expectFault(t, `"#`, api.ErrLexOpen, 0)
	expectFault(t, "\"#\n\"", api.ErrLexByte, 2)
	expectFault(t, "#\"\n\"", api.ErrLexOpen, 3)
}

// P11.1, P11.2: every byte alone, as the first and the last one, between tokens, within a text and behind each kind of token.
func TestEveryByte(t *testing.T) {
	for b := range 256 {
		s := string([]byte{byte(b)})
		for _, source := range []string{s, s + "a", "a" + s, s + " a", "a " + s, "a" + s + "b", "a " + s + " b", "1" + s, s + "1", "-" + s, s + "-1",
			`"` + s + `"`, `"` + s, `"a` + s + `b"`, `""` + s, s + `""`, `"\` + s + `"`, `"\` + s, `"\x` + s + `0"`, `"\x0` + s + `"`, `"\x0` + s,
			"#" + s, s + "#", "#" + s + "\n" + s, "&" + s, s + "&", "|" + s, "=" + s, s + "=", "!" + s, "<" + s, ">" + s, s + s, s + s + s, s + "\n" + s} {
			check(t, source)
		}
	}
}

// P11.1: each byte of the kinds that the chapter doesn't name is a fault of its own place, alone and behind a token.
func TestStrangeBytes(t *testing.T) {
	for b := range 256 {
		s := string([]byte{byte(b)})
		if b < 0x80 && b >= 0x20 && !strings.Contains("$%'*+/:;?@\\^`~\x7f&|=-", s) || strings.Contains(" \t\n\r", s) {
			continue
		}
		expectFault(t, s, api.ErrLexByte, 0)
		expectFault(t, "a "+s, api.ErrLexByte, 2, word("a", 0))
		expectFault(t, "a"+s+" b", api.ErrLexByte, 1, word("a", 0))
	}
}

// P11.1: each mark alone and beside every other, the longest taken.
func TestMarks(t *testing.T) {
	for _, a := range marks {
		expectTokens(t, a, mark(a, 0))
		expectTokens(t, "x"+a+"y", word("x", 0), mark(a, 1), word("y", 1+len(a)))
		for _, b := range marks {
			expectTokens(t, a+" "+b, mark(a, 0), mark(b, len(a)+1))
			check(t, a+b)
			for _, c := range marks {
				check(t, a+b+c)
			}
		}
	}
}

// P11.1: the beginnings of a mark of two bytes that stand alone, and at the source's end.
func TestHalfMarks(t *testing.T) {
	for _, half := range []string{"&", "|", "=", "-"} {
		expectFault(t, half, api.ErrLexByte, 0)
		expectFault(t, half+" "+half, api.ErrLexByte, 0)
		expectFault(t, "a"+half, api.ErrLexByte, 1, word("a", 0))
		expectFault(t, "a "+half+" b", api.ErrLexByte, 2, word("a", 0))
		expectFault(t, half+"#\n"+half, api.ErrLexByte, 0)
		expectFault(t, half+"a", api.ErrLexByte, 0)
	}
	expectFault(t, "&&&", api.ErrLexByte, 2, mark("&&", 0))
	expectFault(t, "|||", api.ErrLexByte, 2, mark("||", 0))
	expectFault(t, "===", api.ErrLexByte, 2, mark("==", 0))
	expectFault(t, "!==", api.ErrLexByte, 2, mark("!=", 0))
	expectFault(t, "<==", api.ErrLexByte, 2, mark("<=", 0))
	expectFault(t, "=<", api.ErrLexByte, 0)
	expectFault(t, "&|", api.ErrLexByte, 0)
	expectTokens(t, "!!=", mark("!", 0), mark("!=", 1))
	expectTokens(t, "<<=>>=", mark("<", 0), mark("<=", 1), mark(">", 3), mark(">=", 4))
	expectTokens(t, "====", mark("==", 0), mark("==", 2))
}

// P11.1: numbers, the edges of their length, and what is none.
func TestNumbers(t *testing.T) {
	full := strings.Repeat("9", 18)
	expectTokens(t, "0", num(0, 0, 1))
	expectTokens(t, "-1", num(-1, 0, 2))
	expectTokens(t, "10", num(10, 0, 2))
	expectTokens(t, "-10", num(-10, 0, 3))
	expectTokens(t, full, num(999999999999999999, 0, 18))
	expectTokens(t, "-"+full, num(-999999999999999999, 0, 19))
	expectTokens(t, "100000000000000000", num(100000000000000000, 0, 18))
	expectTokens(t, "0-1", num(0, 0, 1), num(-1, 1, 3))
	expectTokens(t, "1 2", num(1, 0, 1), num(2, 2, 3))
	expectTokens(t, "1.5", num(1, 0, 1), mark(".", 1), num(5, 2, 3))
	expectTokens(t, "a-1", word("a", 0), num(-1, 1, 3))
	expectTokens(t, `1"a"`, num(1, 0, 1), text("a", 1, 4))
	for _, s := range []string{"00", "-0", "007", "-007", "-00", "01", "0x1", "12k", "12ab", "1_", "1_0", "0_", "0a", "1e5", "-1a", "-1_", "1A", "1Z", "1z",
		full + "0", "-" + full + "0", "1000000000000000000", "-1000000000000000000", "9223372036854775807", "-9223372036854775808", "9223372036854775808",
		strings.Repeat("0", 18), "0" + full, strings.Repeat("1", 100), strings.Repeat("0", 4096), "-" + strings.Repeat("7", 4095), full + "a"} {
		expectFault(t, s, api.ErrLexInt, 0)
		if len(s) < 100 {
			expectFault(t, "a "+s+" &", api.ErrLexInt, 2, word("a", 0))
		}
	}
	expectFault(t, "--1", api.ErrLexByte, 0)
	expectFault(t, "-", api.ErrLexByte, 0)
	expectFault(t, "- 1", api.ErrLexByte, 0)
	expectFault(t, "-a", api.ErrLexByte, 0)
	expectFault(t, "-_", api.ErrLexByte, 0)
	expectFault(t, "1-", api.ErrLexByte, 1, num(1, 0, 1))
	expectFault(t, "1--2", api.ErrLexByte, 1, num(1, 0, 1))
	expectFault(t, "1-02", api.ErrLexInt, 1, num(1, 0, 1))
	expectFault(t, "+1", api.ErrLexByte, 0)
}

// P11.1, P11.2: words take in all letters, digits and _ that follow; no word is more than its bytes here.
func TestWords(t *testing.T) {
	for _, s := range []string{"a", "z", "A", "Z", "_", "__", "_0", "a0", "a_9", "node", "true", "azAZ09_", "x00", "notin", strings.Repeat("a", 4096)} {
		expectTokens(t, s, word(s, 0))
	}
	expectTokens(t, "in notin", word("in", 0), word("notin", 3))
	expectTokens(t, "node.name", word("node", 0), mark(".", 4), word("name", 5))
	expectFault(t, "nodeé", api.ErrLexByte, 4, word("node", 0))
	expectFault(t, "a@", api.ErrLexByte, 1, word("a", 0))
	expectFault(t, "a`", api.ErrLexByte, 1, word("a", 0))
}
