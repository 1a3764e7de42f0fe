package lex_test

import (
	"slices"
	"strings"
	"testing"

	"berth/api"
	"berth/lex"
)

// checkQuote holds P11.4 for one text.
func checkQuote(t *testing.T, s string) {
	t.Helper()
	q := lex.Quote(s)
	if want := modelQuote(s); q != want {
		t.Fatalf("Quote(%.40q) = %.80s, want %.80s", s, q, want)
	}
	if len(s) > 127 {
		f := wrong(api.ErrLexText, 0)
		if len(q) > 4096 {
			f = wrong(api.ErrLexLong, 4096)
		}
		if got, err := lex.Unquote(q); got != "" || !same(err, f) {
			t.Errorf("Unquote(%.40q) = %q, %v", q, got, err)
		}
		expect(t, q, nil, f)
		return
	}
	if got, err := lex.Unquote(q); got != s || err != nil {
		t.Errorf("Unquote(%q) = %q, %v, want %q", q, got, err, s)
	}
	if got, err := lex.Scan(q); err != nil || !slices.Equal(got, []api.Token{text(s, 0, len(q)), end(len(q))}) {
		t.Errorf("Scan(%q) = %v, %v", q, got, err)
	}
}

// P11.4: the chapter's example, the empty text, each kind of byte.
func TestQuote(t *testing.T) {
	for s, want := range map[string]string{
		"": `""`, "a\"\x00\xff": `"a\"\x00\xff"`, "\\": `"\\"`, "\n\t\r": `"\n\t\r"`, " ~": `" ~"`, "\x1f\x7f\x80": `"\x1f\x7f\x80"`,
		"\x0b\xAB": `"\x0b\xab"`, "é": `"\xc3\xa9"`, "#'": `"#'"`, `\n`: `"\\n"`, "zone": `"zone"`,
	} {
		if got := lex.Quote(s); got != want {
			t.Errorf("Quote(%q) = %s, want %s", s, got, want)
		}
		checkQuote(t, s)
	}
}

// P11.4: every byte and every pair of bytes.
func TestQuoteBytes(t *testing.T) {
	for a := range 256 {
		checkQuote(t, string([]byte{byte(a)}))
		for b := range 256 {
			checkQuote(t, string([]byte{byte(a), byte(b)}))
		}
	}
}

// P11.4: the greatest length that a text may stand for, one more, and far more; with bytes that are written in each size.
func TestQuoteLong(t *testing.T) {
	for _, b := range []string{"a", "\n", "\"", "\x00", "\xff"} {
		for _, n := range []int{126, 127, 128, 129, 1023, 1024, 2047, 2048, 4094, 4095, 5000, 70000} {
			checkQuote(t, strings.Repeat(b, n))
		}
	}
}

// expectUnquote holds Unquote of one text against what it stands for, or against the fault.
func expectUnquote(t *testing.T, quoted, want string, f *api.Fault) {
	t.Helper()
	if got, err := lex.Unquote(quoted); got != want || !same(err, f) {
		t.Errorf("Unquote(%.40q) = %q, %v, want %q, %v", quoted, got, err, want, f)
	}
	check(t, quoted)
}

// P11.4: texts that Quote doesn't write stand for something, too.
func TestUnquote(t *testing.T) {
	expectUnquote(t, `""`, "", nil)
	expectUnquote(t, `"\x41\n"`, "A\n", nil)
	expectUnquote(t, `"\x61\xAb\xaB"`, "a\xab\xab", nil)
	expectUnquote(t, "\"\x80\x7f\"", "\x80\x7f", nil)
	expectUnquote(t, `"# b"`, "# b", nil)
	expectUnquote(t, `"`+strings.Repeat(`\x61`, 127)+`"`, strings.Repeat("a", 127), nil)
}

// P11.4, R3: what is no text, or not one alone, with its place and nothing beside it.
func TestUnquoteFaults(t *testing.T) {
	for _, c := range []struct {
		quoted string
		code   api.Errno
		at     int
	}{
		{"", api.ErrLexByte, 0}, {"a", api.ErrLexByte, 0}, {" ", api.ErrLexByte, 0}, {"#", api.ErrLexByte, 0}, {"1", api.ErrLexByte, 0}, {`\"`, api.ErrLexByte, 0},
		{` "a"`, api.ErrLexByte, 0}, {"\n\"a\"", api.ErrLexByte, 0}, {`x"a"`, api.ErrLexByte, 0}, {`#"a"`, api.ErrLexByte, 0}, {`a"\q"`, api.ErrLexByte, 0},
		{`"a" `, api.ErrLexByte, 3}, {"\"a\"\n", api.ErrLexByte, 3}, {`"a"#`, api.ErrLexByte, 3}, {`"a"x`, api.ErrLexByte, 3}, {"\"a\"\x00", api.ErrLexByte, 3},
		{`"a""b"`, api.ErrLexByte, 3}, {`"""`, api.ErrLexByte, 2}, {`"""\q`, api.ErrLexByte, 2}, {`"a" "b"`, api.ErrLexByte, 3}, {`""&`, api.ErrLexByte, 2},
		{`"`, api.ErrLexOpen, 0}, {`"a`, api.ErrLexOpen, 0}, {`"a\"`, api.ErrLexOpen, 0},
		{`"\q"`, api.ErrLexEscape, 1}, {`"\q"x`, api.ErrLexEscape, 1}, {`"a\`, api.ErrLexEscape, 2}, {`"\x4"`, api.ErrLexEscape, 1},
		{"\"\x1f\"", api.ErrLexByte, 1}, {"\"a\n", api.ErrLexByte, 2},
		{`"` + strings.Repeat("a", 128) + `"`, api.ErrLexText, 0}, {`"` + strings.Repeat("a", 128) + `"x`, api.ErrLexText, 0}, {`"` + strings.Repeat(`\n`, 128), api.ErrLexOpen, 0},
		{`"` + strings.Repeat("a", 4094) + `"`, api.ErrLexText, 0}, {`"` + strings.Repeat("a", 4095) + `"`, api.ErrLexLong, 4096},
		{strings.Repeat("a", 4096), api.ErrLexByte, 0}, {strings.Repeat("a", 4097), api.ErrLexLong, 4096}, {`"a"` + strings.Repeat(" ", 4093), api.ErrLexByte, 3},
		{`"a"` + strings.Repeat(" ", 4094), api.ErrLexLong, 4096}, {`"\q` + strings.Repeat(" ", 4094), api.ErrLexLong, 4096},
	} {
		expectUnquote(t, c.quoted, "", wrong(c.code, c.at))
	}
}
