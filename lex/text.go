package lex

import (
	"strings"

	"berth/api"
)

// sixteen are the digits of base sixteen by their worth.
const sixteen = "0123456789abcdef"

// escaped[i] is the byte that stands behind a \ for the byte plain[i].
const (
	escaped = `"\ntr`
	plain   = "\"\\\n\t\r"
)

// Quote: the one text in quotes that stands for s.
func Quote(s string) string {
	var out strings.Builder
	out.WriteByte('"')
	for i := range len(s) {
		quoteByte(&out, s[i])
	}
	out.WriteByte('"')
	return out.String()
}

func quoteByte(out *strings.Builder, b byte) {
	if i := strings.IndexByte(plain, b); i >= 0 {
		out.WriteByte('\\')
		out.WriteByte(escaped[i])
		return
	}
	if 0x20 <= b && b <= 0x7e {
		out.WriteByte(b)
		return
	}
	out.WriteString(`\x`)
	out.WriteByte(sixteen[b>>4])
	out.WriteByte(sixteen[b&15])
}

// Unquote: what a text in quotes stands for.
func Unquote(quoted string) (string, error) {
	if err := tooLong(quoted); err != nil {
		return "", err
	}
	if quoted == "" || quoted[0] != '"' {
		return "", fault(api.ErrLexByte, 0)
	}
	token, err := readText(quoted, 0)
	if err != nil {
		return "", err
	}
	if token.End < len(quoted) {
		return "", fault(api.ErrLexByte, token.End)
	}
	return token.Text, nil
}

// readText looks for a text's length at its end alone: a fault within it is met ahead of that.
func readText(source string, first int) (api.Token, error) {
	var out strings.Builder
	for at := first + 1; at < len(source); {
		switch b := source[at]; {
		case b == '"':
			if out.Len() > api.MaxText {
				return api.Token{}, fault(api.ErrLexText, first)
			}
			return api.Token{Kind: api.TokenText, Text: out.String(), At: first, End: at + 1}, nil
		case b == '\\':
			stands, size := readEscape(source[at:])
			if size == 0 {
				return api.Token{}, fault(api.ErrLexEscape, at)
			}
			out.WriteByte(stands)
			at += size
		case b < 0x20:
			return api.Token{}, fault(api.ErrLexByte, at)
		default:
			out.WriteByte(b)
			at++
		}
	}
	return api.Token{}, fault(api.ErrLexOpen, first)
}

// readEscape is the byte that an escape at the beginning of s, which begins with a \, stands for, and the escape's size; 0, if there is none.
func readEscape(s string) (byte, int) {
	if len(s) < 2 {
		return 0, 0
	}
	if i := strings.IndexByte(escaped, s[1]); i >= 0 {
		return plain[i], 2
	}
	if s[1] != 'x' || len(s) < 4 {
		return 0, 0
	}
	high, low := worth(s[2]), worth(s[3])
	if high < 0 || low < 0 {
		return 0, 0
	}
	return byte(high<<4 | low), 4
}

// worth of a digit of base sixteen, in small or great letters; below 0, if b is none.
func worth(b byte) int {
	if 'A' <= b && b <= 'F' {
		b += 'a' - 'A'
	}
	return strings.IndexByte(sixteen, b)
}
