package lex_test

import (
	"math/rand/v2"
	"testing"
)

// P11.1 to P11.4: every source of up to four bytes, and of up to six of those that decide most in texts and numbers.
func TestEveryShortSource(t *testing.T) {
	letters := []byte("\"\\xn4a-01&=!<# \n\x1f\xff")
	var grow func(source []byte, left int)
	grow = func(source []byte, left int) {
		check(t, string(source))
		if left == 0 {
			return
		}
		for _, b := range letters {
			grow(append(source[:len(source):len(source)], b), left-1)
		}
	}
	grow(nil, 4)
	letters = []byte("\"\\x4a-0")
	grow(nil, 6)
}

// P11.1 to P11.4: random sources, of bytes and of pieces, of which about a half have no fault.
func TestRandomSources(t *testing.T) {
	r := rand.New(rand.NewPCG(11, 1))
	pieces := []string{" ", "\n", "\t", "\r", "# a\n", "node", "_x9", "in", "0", "7", "-12", "999999999999999999", `""`, `"a b"`, `"\x41\n"`, `"\""`, `"#"`, "(", ")"}
	rare := []string{"&", "-", "007", `"`, `\`, "\x00", "\xff", "1a", "#", `"\q"`, `"\x4`}
	for range 6000 {
		source := ""
		for range r.IntN(14) {
			switch n := r.IntN(60); {
			case n == 0:
				source += rare[r.IntN(len(rare))]
			case n < 20:
				source += marks[r.IntN(len(marks))]
			default:
				source += pieces[r.IntN(len(pieces))]
			}
		}
		check(t, source)
	}
	for range 6000 {
		source := make([]byte, r.IntN(8))
		for i := range source {
			source[i] = byte(r.IntN(256))
		}
		check(t, string(source))
		check(t, `"`+string(source)+`"`)
		checkQuote(t, string(source))
	}
}
