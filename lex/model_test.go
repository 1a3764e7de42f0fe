package lex_test

import (
	"iter"
	"regexp"
	"slices"
	"strconv"
	"strings"
	"testing"

	"berth/api"
	"berth/lex"
)

// The model reads a source by the chapter's words written as patterns, over texts in which each byte is one character.
var (
	passed  = regexp.MustCompile(`^([ \t\n\r]|#[^\n]*)+`)
	body    = regexp.MustCompile(`^"([^\x00-\x1f"\\]|\\["\\ntr]|\\x[0-9a-fA-F]{2})*`)
	unit    = regexp.MustCompile(`\\x..|\\.|[^\\]`)
	figure  = regexp.MustCompile(`^-?[0-9][0-9A-Za-z_]*`)
	genuine = regexp.MustCompile(`^(0|-?[1-9][0-9]{0,17})$`)
	aWord   = regexp.MustCompile(`^[A-Za-z_][A-Za-z0-9_]*`)
	aMark   = regexp.MustCompile(`^(&&|\|\||==|!=|<=|>=|[!<>()\[\]{},.])`)
)

func widened(s string) string {
	r := make([]rune, len(s))
	for i := range len(s) {
		r[i] = rune(s[i])
	}
	return string(r)
}

func narrowed(s string) string {
	var b []byte
	for _, r := range s {
		b = append(b, byte(r))
	}
	return string(b)
}

// sought is the piece at the source's beginning that a pattern takes.
func sought(p *regexp.Regexp, source string) string {
	return narrowed(p.FindString(widened(source)))
}

func wrong(code api.Errno, at int) *api.Fault { return &api.Fault{Code: code, At: at} }

// modelScan: the tokens ahead of the fault, or all of them and nil.
func modelScan(source string) ([]api.Token, *api.Fault) {
	if len(source) > 4096 {
		return nil, wrong(api.ErrLexLong, 4096)
	}
	var list []api.Token
	for at := 0; ; {
		at += len(sought(passed, source[at:]))
		if at == len(source) {
			return append(list, end(at)), nil
		}
		token, f := modelToken(source, at)
		if f != nil {
			return list, f
		}
		list, at = append(list, token), token.End
	}
}

func modelToken(source string, at int) (api.Token, *api.Fault) {
	rest := source[at:]
	if rest[0] == '"' {
		return modelText(source, at)
	}
	if s := sought(figure, rest); s != "" {
		if !genuine.MatchString(s) {
			return api.Token{}, wrong(api.ErrLexInt, at)
		}
		n, _ := strconv.ParseInt(s, 10, 64)
		return num(int(n), at, at+len(s)), nil
	}
	if s := sought(aWord, rest); s != "" {
		return word(s, at), nil
	}
	if s := sought(aMark, rest); s != "" {
		return mark(s, at), nil
	}
	return api.Token{}, wrong(api.ErrLexByte, at)
}

func modelText(source string, at int) (api.Token, *api.Fault) {
	s := sought(body, source[at:])
	next := at + len(s)
	if next == len(source) {
		return api.Token{}, wrong(api.ErrLexOpen, at)
	}
	if source[next] == '\\' {
		return api.Token{}, wrong(api.ErrLexEscape, next)
	}
	if source[next] != '"' {
		return api.Token{}, wrong(api.ErrLexByte, next)
	}
	stands := narrowed(unit.ReplaceAllStringFunc(widened(s[1:]), modelUnit))
	if len(stands) > 127 {
		return api.Token{}, wrong(api.ErrLexText, at)
	}
	return text(stands, at, next+1), nil
}

func modelUnit(u string) string {
	switch {
	case u[0] != '\\':
		return u
	case u[1] == 'x':
		n, _ := strconv.ParseUint(u[2:], 16, 8)
		return string(rune(n))
	case u[1] == 'n':
		return "\n"
	case u[1] == 't':
		return "\t"
	case u[1] == 'r':
		return "\r"
	}
	return u[1:]
}

func modelQuote(s string) string {
	out := []byte{'"'}
	for _, b := range []byte(s) {
		switch {
		case b == '"', b == '\\':
			out = append(out, '\\', b)
		case b == 0x0a:
			out = append(out, "\\n"...)
		case b == 0x09:
			out = append(out, "\\t"...)
		case b == 0x0d:
			out = append(out, "\\r"...)
		case b < 0x10:
			out = append(out, "\\x0"+strconv.FormatUint(uint64(b), 16)...)
		case b < 0x20, b > 0x7e:
			out = append(out, "\\x"+strconv.FormatUint(uint64(b), 16)...)
		default:
			out = append(out, b)
		}
	}
	return string(append(out, '"'))
}

func modelUnquote(quoted string) (string, *api.Fault) {
	if len(quoted) > 4096 {
		return "", wrong(api.ErrLexLong, 4096)
	}
	if !strings.HasPrefix(quoted, "\"") {
		return "", wrong(api.ErrLexByte, 0)
	}
	token, f := modelText(quoted, 0)
	if f != nil {
		return "", f
	}
	if token.End != len(quoted) {
		return "", wrong(api.ErrLexByte, token.End)
	}
	return token.Text, nil
}

func text(s string, at, end int) api.Token {
	return api.Token{Kind: api.TokenText, Text: s, At: at, End: end}
}

func word(s string, at int) api.Token {
	return api.Token{Kind: api.TokenWord, Text: s, At: at, End: at + len(s)}
}

func mark(s string, at int) api.Token {
	return api.Token{Kind: api.TokenMark, Text: s, At: at, End: at + len(s)}
}

func num(n, at, end int) api.Token { return api.Token{Kind: api.TokenNum, Num: n, At: at, End: end} }

func end(at int) api.Token { return api.Token{Kind: api.TokenEnd, At: at, End: at} }

// same: whether err is nil where none is wanted, else a *api.Fault itself that says all that is wanted and nothing beside it.
func same(err error, want *api.Fault) bool {
	if want == nil {
		return err == nil
	}
	f, ok := err.(*api.Fault)
	return ok && f != nil && *f == *want
}

// gone is all that an iterator gives; an error must come as the last one, with the zero Token.
func gone(t *testing.T, what string, each iter.Seq2[api.Token, error]) ([]api.Token, error) {
	t.Helper()
	var list []api.Token
	var last error
	for token, err := range each {
		if last != nil {
			t.Errorf("%s: %v, %v behind a fault", what, token, err)
		}
		last = err
		if err == nil {
			list = append(list, token)
		} else if token != (api.Token{}) {
			t.Errorf("%s: %v beside %v", what, token, err)
		}
	}
	return list, last
}

// expect holds Scan and Each of a source against the tokens ahead of the fault, and the fault.
func expect(t *testing.T, source string, list []api.Token, f *api.Fault) {
	t.Helper()
	got, err := lex.Scan(source)
	if f == nil && !slices.Equal(got, list) || f != nil && len(got) != 0 || !same(err, f) {
		t.Errorf("Scan(%.60q) = %v, %v, want %v, %v", source, got, err, list, f)
	}
	if got, err = gone(t, "Each("+strconv.Quote(source)+")", lex.Each(source)); !slices.Equal(got, list) || !same(err, f) {
		t.Errorf("Each(%.60q) gives %v, %v, want %v, %v", source, got, err, list, f)
	}
}

// check holds all that is answered of a source against the model, and P11.2 against what Scan answers.
func check(t *testing.T, source string) {
	t.Helper()
	list, f := modelScan(source)
	expect(t, source, list, f)
	s, err := lex.Unquote(source)
	if want, f := modelUnquote(source); s != want || !same(err, f) {
		t.Errorf("Unquote(%.60q) = %q, %v, want %q, %v", source, s, err, want, f)
	}
	if got, err := lex.Scan(source); err == nil {
		checkPlaces(t, source, got)
	} else if at := err.(*api.Fault).At; at < 0 || at > len(source) {
		t.Errorf("Scan(%.60q): a fault at %d", source, at)
	}
}

func checkPlaces(t *testing.T, source string, list []api.Token) {
	t.Helper()
	behind := 0
	for i, token := range list {
		isEnd := i == len(list)-1
		if token.At < behind || token.End > len(source) || isEnd != (token.Kind == api.TokenEnd) || isEnd != (token.At == token.End) {
			t.Fatalf("Scan(%.60q): token %d is %v behind %d", source, i, token, behind)
		}
		if gap := source[behind:token.At]; sought(passed, gap) != gap {
			t.Errorf("Scan(%.60q): %q is passed over", source, gap)
		}
		behind = token.End
		if !isEnd {
			checkAlone(t, source[token.At:token.End], token)
		}
	}
	if behind != len(source) {
		t.Errorf("Scan(%.60q) ends at %d", source, behind)
	}
}

// checkAlone: the token's own bytes are a source of that one token.
func checkAlone(t *testing.T, own string, token api.Token) {
	t.Helper()
	token.At, token.End = 0, len(own)
	if got, err := lex.Scan(own); err != nil || !slices.Equal(got, []api.Token{token, end(len(own))}) {
		t.Errorf("Scan(%q) = %v, %v, want %v alone", own, got, err, token)
	}
}
