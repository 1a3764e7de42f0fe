package code_test

import (
	"slices"
	"strings"
	"testing"

	"berth/api"
	"berth/code"
)

// programs are such of all kinds, none of them great.
func programs() []api.Program {
	var each []api.Instr
	for op := api.Op(1); op <= 36; op++ {
		i := api.Instr{Op: op}
		for k, operand := range []*int{&i.A, &i.B, &i.C} {
			if operands[op][k] != '.' {
				*operand = []int{300, 5, 65535}[k]
			}
		}
		each = append(each, i)
	}
	out := []api.Program{
		{}, {Depth: 128, Locals: 1024}, {Code: all(), Depth: 1}, {Code: each, Depth: 4, Locals: 2}, {Texts: edgeTexts()}, {Nums: edgeNums()},
		{Texts: []string{""}, Nums: []int{0}, Sets: [][]string{{""}}, NumSets: [][]int{{0}}, Code: all()[1:]},
		{Sets: [][]string{{""}, {"", "a"}, {"", "a", "b"}, {"a"}, {"a", "b"}, {"b"}}}, {NumSets: [][]int{{-2}, {-2, -1}, {-2, -1, 0}, {-1}, {0}, {0, 1}, {0, 64}, {1}}},
		{Texts: []string{strings.Repeat("t", 127)}, Nums: []int{-far, far}, Sets: [][]string{{strings.Repeat("s", 126), strings.Repeat("s", 127)}}, NumSets: [][]int{{-far}, {-far, far}}, Code: all()},
		pools(130, 131, 132, 133), {Sets: [][]string{names(200)}, NumSets: [][]int{upTo(-100, 200)}},
	}
	r := newChance(1)
	for range 40 {
		out = append(out, r.program(8))
	}
	return out
}

// P20.4: a program's bytes cut off anywhere ahead of their end, and with anything behind them.
func TestCutOffAndWithMoreBehind(t *testing.T) {
	for _, p := range programs() {
		b := tryEncode(t, p)
		for size := range b {
			wantFault(t, b[:size], fault{api.ErrCodeCut, size})
			wantFault(t, slices.Clip(slices.Clone(b[:size])), fault{api.ErrCodeCut, size})
		}
		for x := range 256 {
			wantFault(t, joined(b, x), fault{api.ErrCodeRest, len(b)})
		}
		for _, rest := range [][]byte{b, b[:4], {0, 0}, {0x80, 0x80, 0x80}, make([]byte, 1000)} {
			wantFault(t, joined(b, rest), fault{api.ErrCodeRest, len(b)})
		}
	}
}

// P20.2, P20.3: a program's bytes with one byte turned into each other one, with one taken out and with one put in, at each place: never the same program again.
func TestOneByteTurned(t *testing.T) {
	seen := map[api.Errno]int{}
	look := func(p api.Program, b []byte) {
		number, _ := tryDecode(t, b)
		seen[number]++
		if got, err := code.Decode(b); err == nil && sameProgram(got, p) {
			t.Errorf("other bytes write %s", told(p))
		}
	}
	for _, p := range programs() {
		b := tryEncode(t, p)
		for at := range min(len(b), 60) {
			for x := range 256 {
				if turned := slices.Clone(b); turned[at] != byte(x) {
					turned[at] = byte(x)
					look(p, turned)
				}
			}
			look(p, slices.Delete(slices.Clone(b), at, at+1))
			for _, x := range []byte{0, 1, 2, 36, 37, 0x7f, 0x80, 0x81, 0xff} {
				look(p, slices.Insert(slices.Clone(b), at, x))
			}
		}
	}
	for number := api.ErrCodeMagic; number <= api.ErrCodeRest; number++ {
		if seen[number] < 50 {
			t.Errorf("only %d times %d (%v)", seen[number], number, seen)
		}
	}
}

// P20.2: what follows behind the first fault isn't looked at: the bytes up to that at which it shows tell the same fault.
func TestFaultsShowAtOneByte(t *testing.T) {
	r := newChance(2)
	for range 3000 {
		b := r.turn(slices.Concat(fields(r.program(5))...))
		number, at := tryDecode(t, b)
		if number == api.OK || number == api.ErrCodeCut {
			continue
		}
		shows := len(b)
		for ; shows > 0; shows-- {
			if n, _ := tryDecode(t, b[:shows-1]); n != number {
				break
			}
		}
		if at >= shows {
			t.Fatalf("Decode(%s): %d at %d shows with %d bytes", toldBytes(b), number, at, shows)
		}
		for size := range shows {
			want := fault{api.ErrCodeCut, size}
			if number == api.ErrCodeRest && size == at {
				want = fault{api.OK, 0}
			}
			wantFault(t, b[:size], want)
		}
		wantFault(t, joined(b[:shows], b), fault{number, at})
		wantFault(t, joined(b[:shows], 0xff), fault{number, at})
	}
}

// P20.1 to P20.3: random programs, whole and with one or two things disturbed.
func TestRandomPrograms(t *testing.T) {
	r := newChance(3)
	seen := map[string]int{}
	for range 20000 {
		p := r.program(one(r, 2, 5, 20))
		if tryEncode(t, p) == nil {
			t.Fatalf("%s has no form", told(p))
		}
		for range 1 + r.IntN(2) {
			r.disturb(&p)
		}
		seen[formless(p)]++
		tryEncode(t, p)
	}
	for _, why := range []string{"", "texts", "a long text", "numbers", "a long number", "sets", "limits", "an Op", "an operand"} {
		if seen[why] < 30 {
			t.Errorf("only %d programs: %q (%v)", seen[why], why, seen)
		}
	}
}

// P20.2, P20.3: the bytes of random programs, changed at one place and at several.
func TestRandomBytes(t *testing.T) {
	r := newChance(4)
	seen := map[api.Errno]int{}
	for range 20000 {
		b := slices.Concat(fields(r.program(one(r, 2, 5, 12)))...)
		for range one(r, 1, 1, 2, 5) {
			b = r.turn(b)
			number, _ := tryDecode(t, b)
			seen[number]++
		}
	}
	for _, number := range []api.Errno{api.OK, api.ErrCodeMagic, api.ErrCodeCut, api.ErrCodeNumber, api.ErrCodeOp, api.ErrCodePool, api.ErrCodeLimit, api.ErrCodeRest} {
		if seen[number] < 300 {
			t.Errorf("only %d times %d (%v)", seen[number], number, seen)
		}
	}
}

// P20.2, P1: bytes of no order at all, behind nothing, behind the head and behind the beginning of a program.
func TestAnyBytes(t *testing.T) {
	r := newChance(5)
	for range 60000 {
		b := joined(one(r, "", "BRT\x01", start, start+"\x00", start+"\x00\x00", start+"\x00\x00\x00", start+"\x00\x00\x00\x00", start+"\x00\x00\x00\x00\x05"))
		few := r.IntN(2) == 0
		for range r.IntN(60) {
			if x := byte(r.IntN(256)); few {
				b = append(b, one(r, 0, 1, 2, 3, 4, 'a', 36, x))
			} else {
				b = append(b, x)
			}
		}
		tryDecode(t, b)
	}
}

// P20.2, P20.3: all bytes behind the head, up to eight, of a few: no two of them are the same program's.
func TestAllShortBytes(t *testing.T) {
	few := []byte{0, 1, 2, 0x24, 0x80}
	known := map[string]int{}
	var look func(b []byte)
	look = func(b []byte) {
		if number, _ := tryDecode(t, b); number == api.OK {
			p, _ := code.Decode(b)
			known[told(p)]++
		}
		if len(b) == 12 {
			return
		}
		for _, x := range few {
			look(append(b, x))
		}
	}
	look([]byte("BRT\x01"))
	for p, n := range known {
		if n > 1 {
			t.Errorf("%d times %s", n, p)
		}
	}
	if len(known) < 40 {
		t.Errorf("only %d programs", len(known))
	}
}
