package lex_test

import (
	"strings"
	"testing"

	"berth/api"
)

// P11.1, P11.2: what a text's bytes and escapes stand for.
func TestTexts(t *testing.T) {
	expectTokens(t, `"a"`, text("a", 0, 3))
	expectTokens(t, "\" \x7f\x80\xff\"", text(" \x7f\x80\xff", 0, 6))
	expectTokens(t, `"é"`, text("é", 0, 4))
	expectTokens(t, `"'/&|="`, text("'/&|=", 0, 7))
	expectTokens(t, `"\"\\\n\t\r"`, text("\"\\\n\t\r", 0, 12))
	expectTokens(t, `"\\"`, text(`\`, 0, 4))
	expectTokens(t, `"\\n"`, text(`\n`, 0, 5))
	expectTokens(t, `"\x00\xff\xFF\xaB\x0a\x22\x5C"`, text("\x00\xff\xff\xab\n\"\\", 0, 30))
	expectTokens(t, `"\x411"`, text("A1", 0, 7))
	expectTokens(t, `"a""b"`, text("a", 0, 3), text("b", 3, 6))
	expectTokens(t, `a"b"c`, word("a", 0), text("b", 1, 4), word("c", 4))
	expectTokens(t, `"\"""#"`, text(`"`, 0, 4), text("#", 4, 7))
}

// P11.1: what begins no escape, its place, and that it is met ahead of the text's end, missing or there.
func TestEscapes(t *testing.T) {
	for _, s := range []string{`\q`, `\N`, `\0`, `\'`, `\a`, `\X41`, `\ `, "\\\n", "\\\x00", "\\\xff", `\x`, `\x4`, `\xg0`, `\x0g`, `\xG0`, `\x0G`, `\x 4`, `\x-1`, `\x+1`, "\\x\x00\x00", `\x@0`, "\\x`0", `\x:0`, `\x/0`} {
		expectFault(t, `"`+s, api.ErrLexEscape, 1)
		expectFault(t, `"`+s+`"`, api.ErrLexEscape, 1)
		expectFault(t, `a "b`+s+`" &`, api.ErrLexEscape, 4, word("a", 0))
		expectFault(t, `"\\\x41`+s+`"`, api.ErrLexEscape, 7)
	}
	expectFault(t, `"\`, api.ErrLexEscape, 1)
	expectFault(t, `"\\\`, api.ErrLexEscape, 3)
	expectFault(t, `"\x"`, api.ErrLexEscape, 1)
	expectFault(t, `"\x4"`, api.ErrLexEscape, 1)
	expectFault(t, `"\x"41"`, api.ErrLexEscape, 1)
	expectFault(t, `\`, api.ErrLexByte, 0)
	expectFault(t, `\n`, api.ErrLexByte, 0)
}

// P11.1: a text that isn't closed tells its beginning, but a fault within it is met ahead of that.
func TestOpen(t *testing.T) {
	expectFault(t, `"`, api.ErrLexOpen, 0)
	expectFault(t, `"""`, api.ErrLexOpen, 2, text("", 0, 2))
	expectFault(t, ` "a\"`, api.ErrLexOpen, 1)
	expectFault(t, `"a\\\"`, api.ErrLexOpen, 0)
	expectFault(t, `"a\x22`, api.ErrLexOpen, 0)
	expectFault(t, `"a # " "`, api.ErrLexOpen, 7, text("a # ", 0, 6))
	for b := range 0x20 {
		low := string([]byte{byte(b)})
		expectFault(t, `"a`+low, api.ErrLexByte, 2)
		expectFault(t, `"a`+low+`"`, api.ErrLexByte, 2)
		expectFault(t, `"a`+low+`\q`, api.ErrLexByte, 2)
		expectFault(t, `"a\q`+low, api.ErrLexEscape, 2)
	}
}

// P11.1: texts of the greatest length and of one more, written plainly and by escapes; a fault within one is met ahead of its length.
func TestLongTexts(t *testing.T) {
	for _, u := range []struct{ written, stands string }{{"a", "a"}, {`\x61`, "a"}, {`\n`, "\n"}, {`\"`, `"`}, {"\xff", "\xff"}, {`\xfF`, "\xff"}} {
		most := `"` + strings.Repeat(u.written, 127) + `"`
		expectTokens(t, most, text(strings.Repeat(u.stands, 127), 0, len(most)))
		over := `"` + strings.Repeat(u.written, 128)
		expectFault(t, over, api.ErrLexOpen, 0)
		expectFault(t, over+`"`, api.ErrLexText, 0)
		expectFault(t, "a "+over+`" &`, api.ErrLexText, 2, word("a", 0))
		expectFault(t, over+`\q"`, api.ErrLexEscape, len(over))
		expectFault(t, over+`\`, api.ErrLexEscape, len(over))
		expectFault(t, over+"\x1f\"", api.ErrLexByte, len(over))
		expectFault(t, over+"\n", api.ErrLexByte, len(over))
	}
	expectTokens(t, `"`+strings.Repeat("é", 63)+`a"`, text(strings.Repeat("é", 63)+"a", 0, 129))
	expectFault(t, `"`+strings.Repeat("é", 64)+`"`, api.ErrLexText, 0)
	expectFault(t, `"`+strings.Repeat("a", 4094)+`"`, api.ErrLexText, 0)
	expectFault(t, `"`+strings.Repeat("a", 4095), api.ErrLexOpen, 0)
}

// P11.1: the fault that is met first is answered, whatever stands further right.
func TestFirstFault(t *testing.T) {
	faults := []struct {
		source string
		code   api.Errno
		at     int
	}{
		{"&", api.ErrLexByte, 0}, {"\"\x01\"", api.ErrLexByte, 1}, {`"\q"`, api.ErrLexEscape, 1}, {"007", api.ErrLexInt, 0}, {`"` + strings.Repeat("a", 128) + `"`, api.ErrLexText, 0},
	}
	for _, a := range faults {
		for _, b := range faults {
			expectFault(t, a.source+" "+b.source, a.code, a.at)
			expectFault(t, "x "+a.source+"\n"+b.source+` "`, a.code, a.at+2, word("x", 0))
		}
		expectFault(t, a.source+` "`, a.code, a.at)
	}
}

// P11.1: a source of the greatest length, and one more, which is looked for ahead of all else.
func TestLongSources(t *testing.T) {
	expectTokens(t, strings.Repeat(" ", 4096))
	expectTokens(t, "#"+strings.Repeat("&", 4095))
	expectTokens(t, strings.Repeat(" ", 4095)+"a", word("a", 4095))
	expectTokens(t, `"`+strings.Repeat(`\x61`, 127)+`"`+strings.Repeat(" ", 4096-510), text(strings.Repeat("a", 127), 0, 510))
	var all []api.Token
	for i := range 4096 {
		all = append(all, mark("(", i))
	}
	expectTokens(t, strings.Repeat("(", 4096), all...)
	expectFault(t, strings.Repeat(" ", 4095)+"&", api.ErrLexByte, 4095)
	expectFault(t, strings.Repeat(" ", 4095)+`"`, api.ErrLexOpen, 4095)
	expectFault(t, "&"+strings.Repeat(" ", 4095), api.ErrLexByte, 0)
	for _, s := range []string{" ", "&", `"`, "a", "0", "#", "\\", "(", "\n"} {
		expectFault(t, strings.Repeat(s, 4097), api.ErrLexLong, 4096)
		expectFault(t, strings.Repeat(s, 100000), api.ErrLexLong, 4096)
		expectFault(t, s+strings.Repeat(" ", 4096), api.ErrLexLong, 4096)
	}
	expectFault(t, "a b "+strings.Repeat(" ", 4093), api.ErrLexLong, 4096)
}
