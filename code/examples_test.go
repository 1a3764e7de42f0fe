package code_test

import (
	"bytes"
	"encoding/hex"
	"strings"
	"testing"

	"berth/api"
	"berth/code"
)

// raw are bytes that are written as in the chapter: hexadecimal, with blanks and points between.
func raw(t *testing.T, text string) []byte {
	t.Helper()
	out, err := hex.DecodeString(strings.NewReplacer(" ", "", "·", "").Replace(text))
	if err != nil {
		t.Fatal(err)
	}
	return out
}

// P20.1, P20.3: the chapter's examples 1 and 2.
func TestExamplesOfPrograms(t *testing.T) {
	for _, x := range []struct {
		p     api.Program
		bytes string
	}{
		{api.Program{Code: all(), Depth: 1}, "42 52 54 01 · 01 00 · 00 · 00 · 00 · 00 · 02 · 02 00 · 24"},
		{api.Program{Texts: []string{"a"}, Nums: []int{-1, 3}, Code: all(), Depth: 1}, "42 52 54 01 · 01 00 · 01 01 61 · 02 01 06 · 00 · 00 · 02 · 02 00 · 24"},
	} {
		want := raw(t, x.bytes)
		if got := tryEncode(t, x.p); !bytes.Equal(got, want) {
			t.Errorf("Encode(%s) = % x, want % x", told(x.p), got, want)
		}
		wantFault(t, want, fault{api.OK, 0})
	}
}

// P20.2, P20.4: the chapter's examples 3 to 6.
func TestExamplesOfFaults(t *testing.T) {
	for _, x := range []struct {
		bytes string
		want  fault
	}{
		{"", fault{api.ErrCodeCut, 0}},
		{"42 52 58", fault{api.ErrCodeMagic, 2}},
		{"42 52 54", fault{api.ErrCodeCut, 3}},
		{"42 52 54 01 81 00", fault{api.ErrCodeNumber, 4}},
		{"42 52 54 01 81 01", fault{api.ErrCodeLimit, 4}},
		{"42 52 54 01 80", fault{api.ErrCodeCut, 5}},
		{"42 52 54 01 01 00 02 01 62 01 61", fault{api.ErrCodePool, 9}},
		{"42 52 54 01 · 01 00 · 00 · 00 · 00 · 00 · 02 · 02 00 · 25", fault{api.ErrCodeOp, 13}},
		{"42 52 54 01 · 01 00 · 00 · 00 · 00 · 00 · 02 · 02 00 · 24 00", fault{api.ErrCodeRest, 14}},
	} {
		wantFault(t, raw(t, x.bytes), x.want)
	}
	if _, err := code.Decode(nil); err == nil {
		t.Error("nil is a program")
	}
}

// P20.1: the chapter's example 7.
func TestExamplesWithoutForm(t *testing.T) {
	for _, p := range []api.Program{
		{Code: []api.Instr{{Op: api.OpAnd, A: 1}}},
		{Nums: []int{3, 3}},
		{Nums: []int{1000000000000000001}},
	} {
		wantForm(t, told(p), p, false)
	}
}

// The errors have the numbers that the chapter gives them.
func TestNumbers(t *testing.T) {
	for i, e := range []api.Errno{api.ErrCodeMagic, api.ErrCodeCut, api.ErrCodeNumber, api.ErrCodeOp, api.ErrCodePool, api.ErrCodeLimit, api.ErrCodeRest, api.ErrCodeProgram} {
		if int(e) != 200+i {
			t.Errorf("%d, want %d", e, 200+i)
		}
	}
}

// P20.2: a fault tells itself as R2 says: errors.Is by its code, nothing that led to it.
func TestFaultsAreFaults(t *testing.T) {
	_, err := code.Decode([]byte("BRT\x01\x01\x00\x00\x00\x00\x00\x01\x00"))
	f, is := err.(*api.Fault)
	if !is || !f.Is(api.ErrCodeOp) || f.Unwrap() != nil || f.At != 11 || f.Name != "" {
		t.Errorf("%v", err)
	}
}
