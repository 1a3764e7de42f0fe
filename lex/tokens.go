package lex

import (
	"strconv"
	"strings"

	"berth/api"
)

// marksOfOne are the marks of one byte each.
const marksOfOne = "!<>()[]{},."

// read is the token that begins at a place where neither a blank nor a remark stands.
func read(source string, at int) (api.Token, error) {
	switch b := source[at]; {
	case b == '"':
		return readText(source, at)
	case isDigit(b), b == '-' && at+1 < len(source) && isDigit(source[at+1]):
		return readNumber(source, at)
	case inWord(b):
		return piece(api.TokenWord, source, at, behindWord(source, at)), nil
	}
	return readMark(source, at)
}

// readNumber takes in all that a word could go on with, so that a number with letters behind it is none.
func readNumber(source string, at int) (api.Token, error) {
	end := behindWord(source, at+1)
	n, ok := number(source[at:end])
	if !ok {
		return api.Token{}, fault(api.ErrLexInt, at)
	}
	return api.Token{Kind: api.TokenNum, Num: n, At: at, End: end}, nil
}

// number is what s writes, if it is the one text of a number and not too long: its length is looked at here, since some longer ones fit an int, too.
func number(s string) (int, bool) {
	digits, minus := strings.CutPrefix(s, "-")
	if digits == "0" {
		return 0, !minus
	}
	if len(digits) > api.MaxNumDigits || strings.HasPrefix(digits, "0") {
		return 0, false
	}
	n, err := strconv.Atoi(s)
	return n, err == nil
}

// readMark tries two bytes ahead of one, since the longest mark is taken.
func readMark(source string, at int) (api.Token, error) {
	if at+2 <= len(source) {
		switch source[at : at+2] {
		case "&&", "||", "==", "!=", "<=", ">=":
			return piece(api.TokenMark, source, at, at+2), nil
		}
	}
	if strings.IndexByte(marksOfOne, source[at]) < 0 {
		return api.Token{}, fault(api.ErrLexByte, at)
	}
	return piece(api.TokenMark, source, at, at+1), nil
}

// piece is a token that stands for its own bytes; they are copied, for an answer shares nothing with the source.
func piece(kind api.TokenKind, source string, at, end int) api.Token {
	return api.Token{Kind: kind, Text: strings.Clone(source[at:end]), At: at, End: end}
}

// behindWord is the first place, from at on, of which a word or a number doesn't take in the byte.
func behindWord(source string, at int) int {
	for at < len(source) && inWord(source[at]) {
		at++
	}
	return at
}

// behindRemark is the place of the line's end, which is a blank of its own, or the source's end.
func behindRemark(source string, at int) int {
	if n := strings.IndexByte(source[at:], '\n'); n >= 0 {
		return at + n
	}
	return len(source)
}

func isBlank(b byte) bool { return b == ' ' || b == '\t' || b == '\n' || b == '\r' }

func isDigit(b byte) bool { return '0' <= b && b <= '9' }

// inWord: whether a word may go on with b; a word begins with one of these that is no digit.
func inWord(b byte) bool {
	return isDigit(b) || 'a' <= b && b <= 'z' || 'A' <= b && b <= 'Z' || b == '_'
}
