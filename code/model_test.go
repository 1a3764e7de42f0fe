package code_test

import (
	"math/big"

	"berth/api"
)

// operands are those of chapter 22's table, an Op a word: a letter for each of A, B and C that is named there, a point for one that isn't.
var operands = []string{
	"", "u..", "u..", "t..", "s..", "n..", "m..", "t..", "...", "...", "...", "...", "ut.", "u..", "u..", "...", "utc", "ut.",
	".tc", ".t.", ".tc", ".t.", ".t.", ".t.", "u..", "u.c", "u..", "...", "...", "...", "...", "l..", "l..", "j..", "j..", "...", "...",
}

// far is 10^18, the greatest short number.
const far = 1000000000000000000

// less: whether a list is less than another by the chapter's words, with the elements' own order handed in.
func less[T any](a, b []T, under func(x, y T) bool) bool {
	for i := range min(len(a), len(b)) {
		if under(a[i], b[i]) || under(b[i], a[i]) {
			return under(a[i], b[i])
		}
	}
	return len(a) < len(b)
}

func lessBytes(a, b string) bool {
	return less([]byte(a), []byte(b), func(x, y byte) bool { return x < y })
}

func lessNum(a, b int) bool { return a < b }

func lessTexts(a, b []string) bool { return less(a, b, lessBytes) }

func lessNums(a, b []int) bool { return less(a, b, lessNum) }

// climbs: whether a list rises, looked at from its end.
func climbs[T any](list []T, under func(x, y T) bool) bool {
	for i := len(list) - 1; i > 0; i-- {
		if !under(list[i-1], list[i]) {
			return false
		}
	}
	return true
}

// formless is what keeps a program from having a form, by the chapter's list; else the empty text.
func formless(p api.Program) string {
	texts := append([][]string{p.Texts}, p.Sets...)
	nums := append([][]int{p.Nums}, p.NumSets...)
	for i, list := range texts {
		if !climbs(list, lessBytes) || i > 0 && (len(list) == 0 || len(list) > 1000) {
			return "texts"
		}
		for _, text := range list {
			if len(text) > 127 {
				return "a long text"
			}
		}
	}
	for i, list := range nums {
		if !climbs(list, lessNum) || i > 0 && (len(list) == 0 || len(list) > 1000) {
			return "numbers"
		}
		for _, n := range list {
			if n > far || n < -far {
				return "a long number"
			}
		}
	}
	switch {
	case !climbs(p.Sets, lessTexts), !climbs(p.NumSets, lessNums):
		return "sets"
	case len(p.Texts)+len(p.Nums)+len(p.Sets)+len(p.NumSets) > 4096:
		return "pools"
	case len(p.Code) > 32768, p.Depth < 0, p.Depth > 128, p.Locals < 0, p.Locals > 1024:
		return "limits"
	}
	return formlessCode(p.Code)
}

func formlessCode(code []api.Instr) string {
	for _, i := range code {
		if i.Op < 1 || i.Op > 36 {
			return "an Op"
		}
		for k, n := range []int{i.A, i.B, i.C} {
			most := 65535
			if operands[i.Op][k] == '.' {
				most = 0
			}
			if n < 0 || n > most {
				return "an operand"
			}
		}
	}
	return ""
}

// countBytes writes a count as the digits of a great number in the base 128.
func countBytes(n *big.Int) []byte {
	var out []byte
	for rest := new(big.Int).Set(n); ; {
		digit := new(big.Int)
		rest.DivMod(rest, big.NewInt(128), digit)
		if rest.Sign() == 0 {
			return append(out, byte(digit.Int64()))
		}
		out = append(out, byte(digit.Int64())|0x80)
	}
}

func countOf(n int) []byte { return countBytes(big.NewInt(int64(n))) }

func signedOf(n int) []byte {
	twice := new(big.Int).Mul(big.NewInt(2), big.NewInt(int64(n)))
	if n < 0 {
		twice.Neg(twice).Sub(twice, big.NewInt(1))
	}
	return countBytes(twice)
}

func textOf(text string) []byte { return append(countOf(len(text)), text...) }

func listOf[T any](list []T, each func(T) []byte) []byte {
	out := countOf(len(list))
	for _, x := range list {
		out = append(out, each(x)...)
	}
	return out
}

func textsOf(list []string) []byte { return listOf(list, textOf) }

func numsOf(list []int) []byte { return listOf(list, signedOf) }

func instrOf(i api.Instr) []byte {
	out := []byte{byte(i.Op)}
	for k, n := range []int{i.A, i.B, i.C} {
		if operands[i.Op][k] != '.' {
			out = append(out, countOf(n)...)
		}
	}
	return out
}

// fields are the bytes of a program with a form, in the seven pieces of the chapter's list (Depth and Locals as two).
func fields(p api.Program) [][]byte {
	return [][]byte{
		{0x42, 0x52, 0x54, 0x01}, countOf(p.Depth), countOf(p.Locals), textsOf(p.Texts), numsOf(p.Nums),
		listOf(p.Sets, textsOf), listOf(p.NumSets, numsOf), listOf(p.Code, instrOf),
	}
}

// tape is the chapter's reading of bytes; it goes on behind a fault without looking at anything, so that the first one stays.
type tape struct {
	b    []byte
	at   int
	code api.Errno
	spot int
}

func (t *tape) fault(code api.Errno, spot int) {
	if t.code == api.OK {
		t.code, t.spot = code, spot
	}
}

// count is a count from least to most: the bytes up to the first one without the highest bit, at most nine.
func (t *tape) count(least, most int) int {
	if t.code != api.OK {
		return 0
	}
	first := t.at
	size := 0
	for i, x := range t.b[first:min(first+9, len(t.b))] {
		if x < 0x80 {
			size = i + 1
			break
		}
	}
	switch {
	case size == 0 && len(t.b)-first >= 9:
		t.fault(api.ErrCodeNumber, first)
		return 0
	case size == 0:
		t.fault(api.ErrCodeCut, len(t.b))
		return 0
	case size > 1 && t.b[first+size-1] == 0:
		t.fault(api.ErrCodeNumber, first)
		return 0
	}
	sum := new(big.Int)
	for i := size - 1; i >= 0; i-- {
		sum.Mul(sum, big.NewInt(128)).Add(sum, big.NewInt(int64(t.b[first+i]&0x7f)))
	}
	if sum.Cmp(big.NewInt(int64(least))) < 0 || sum.Cmp(big.NewInt(int64(most))) > 0 {
		t.fault(api.ErrCodeLimit, first)
		return 0
	}
	t.at += size
	return int(sum.Int64())
}

func (t *tape) signed() int {
	n := t.count(0, 2*far)
	if n%2 == 0 {
		return n / 2
	}
	return -(n / 2) - 1
}

func (t *tape) text() string {
	size := t.count(0, 127)
	if t.code == api.OK && len(t.b)-t.at < size {
		t.fault(api.ErrCodeCut, len(t.b))
	}
	if t.code != api.OK {
		return ""
	}
	t.at += size
	return string(t.b[t.at-size : t.at])
}

func several[T any](t *tape, size int, each func() T, under func(x, y T) bool) []T {
	var out []T
	for len(out) < size && t.code == api.OK {
		first := t.at
		out = append(out, each())
		if t.code == api.OK && !climbs(out[max(len(out)-2, 0):], under) {
			t.fault(api.ErrCodePool, first)
		}
	}
	return out
}

func (t *tape) texts() []string { return several(t, t.count(1, 1000), t.text, lessBytes) }

func (t *tape) nums() []int { return several(t, t.count(1, 1000), t.signed, lessNum) }

func (t *tape) instr() api.Instr {
	if t.code == api.OK && t.at == len(t.b) {
		t.fault(api.ErrCodeCut, t.at)
	} else if t.code == api.OK && (t.b[t.at] == 0 || t.b[t.at] > 36) {
		t.fault(api.ErrCodeOp, t.at)
	}
	if t.code != api.OK {
		return api.Instr{}
	}
	i := api.Instr{Op: api.Op(t.b[t.at])}
	t.at++
	for k, operand := range []*int{&i.A, &i.B, &i.C} {
		if operands[i.Op][k] != '.' {
			*operand = t.count(0, 65535)
		}
	}
	return i
}

// readModel is what the chapter says of bytes: the program, or the first fault with its place.
func readModel(b []byte) (api.Program, api.Errno, int) {
	t := &tape{b: b, at: 4}
	for i, x := range []byte("BRT\x01") {
		if i == len(b) {
			return api.Program{}, api.ErrCodeCut, len(b)
		} else if b[i] != x {
			return api.Program{}, api.ErrCodeMagic, i
		}
	}
	p := api.Program{Depth: t.count(0, 128), Locals: t.count(0, 1024)}
	p.Texts = several(t, t.count(0, 4096), t.text, lessBytes)
	p.Nums = several(t, t.count(0, 4096-len(p.Texts)), t.signed, lessNum)
	p.Sets = several(t, t.count(0, 4096-len(p.Texts)-len(p.Nums)), t.texts, lessTexts)
	p.NumSets = several(t, t.count(0, 4096-len(p.Texts)-len(p.Nums)-len(p.Sets)), t.nums, lessNums)
	for size := t.count(0, 32768); len(p.Code) < size && t.code == api.OK; {
		p.Code = append(p.Code, t.instr())
	}
	if t.code == api.OK && t.at < len(b) {
		t.fault(api.ErrCodeRest, t.at)
	}
	if t.code != api.OK {
		return api.Program{}, t.code, t.spot
	}
	return p, api.OK, 0
}
