package code_test

import (
	"fmt"
	"slices"
	"testing"

	"berth/api"
	"berth/code"
)

// bytesAndBack: what Encode and Decode make of a great program; the model would take too long.
func bytesAndBack(t *testing.T, p api.Program) []byte {
	t.Helper()
	b, e := code.Encode(p)
	if e != api.OK {
		t.Fatal(e)
	}
	if back, err := code.Decode(b); err != nil || !sameProgram(back, p) {
		t.Fatalf("%d bytes decode as another program, or none: %v", len(b), err)
	}
	return b
}

// P20.1, P20.3, P20.4: programs as great as they may be: all pools full, each set with 1000 elements.
func TestGreatestPrograms(t *testing.T) {
	nums := api.Program{NumSets: make([][]int, 4096)}
	for i := range nums.NumSets {
		nums.NumSets[i] = append([]int{-far + i}, upTo(far-998, 999)...)
	}
	texts := api.Program{Sets: make([][]string, 1000)}
	for i := range texts.Sets {
		texts.Sets[i] = append([]string{fmt.Sprintf("a%0126d", i)}, names(999)...)
	}
	full := pools(1024, 1024, 1024, 1024)
	full.Code = slices.Repeat([]api.Instr{{Op: api.OpNumber, A: 65535, B: 65535, C: 65535}}, 32768)
	full.Depth, full.Locals = 128, 1024
	for _, p := range []api.Program{nums, texts, full} {
		b := bytesAndBack(t, p)
		for _, size := range []int{4, 6, 10, len(b) / 3, len(b) / 2, len(b) - 1} {
			_, err := code.Decode(b[:size])
			if f, is := err.(*api.Fault); !is || f.Code != api.ErrCodeCut || f.At != size {
				t.Errorf("cut off at %d: %v", size, err)
			}
		}
		_, err := code.Decode(append(b, 0))
		if f, is := err.(*api.Fault); !is || f.Code != api.ErrCodeRest || f.At != len(b) {
			t.Errorf("with a byte behind them: %v", err)
		}
	}
}

// P1, P20.1: arguments far beyond the limits are refused.
func TestFarTooGreat(t *testing.T) {
	many := api.Program{
		Texts: make([]string, 1<<20), Nums: make([]int, 1<<20), Sets: make([][]string, 1<<20), NumSets: make([][]int, 1<<20), Code: make([]api.Instr, 1<<20),
		Depth: 1 << 62, Locals: 1 << 62,
	}
	long := string(make([]byte, 1<<20))
	for _, p := range []api.Program{
		many, {Texts: many.Texts}, {Nums: many.Nums}, {Sets: many.Sets}, {NumSets: many.NumSets}, {Code: many.Code}, {Sets: [][]string{many.Texts}}, {NumSets: [][]int{upTo(0, 1<<20)}},
		{Texts: []string{long}}, {Sets: [][]string{{long}}}, {Sets: [][]string{{"a", long}}},
	} {
		if b, e := code.Encode(p); b != nil || e != api.ErrCodeProgram {
			t.Errorf("%d bytes, %d", len(b), e)
		}
	}
}

// P1, P20.2: long bytes that are no program's.
func TestLongBytes(t *testing.T) {
	for _, x := range []struct {
		b    []byte
		want fault
	}{
		{make([]byte, 1<<24), fault{api.ErrCodeMagic, 0}},
		{joined("BRT\x01", make([]byte, 1<<24)), fault{api.ErrCodeRest, 11}},
		{joined("BRT\x01", slices.Repeat([]byte{0xff}, 1<<24)), fault{api.ErrCodeNumber, 4}},
		{joined(start, slices.Repeat([]byte{1}, 1<<20)), fault{api.ErrCodeRest, 21}},
		{joined(start, 0, 0, 0, 0, countOf(32768), slices.Repeat([]byte{36}, 1<<20)), fault{api.ErrCodeRest, 6 + 4 + 3 + 32768}},
	} {
		wantFault(t, x.b, x.want)
	}
}
