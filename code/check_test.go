package code_test

import (
	"bytes"
	"fmt"
	"slices"
	"testing"

	"berth/api"
	"berth/code"
)

// short is the beginning of a text, for messages.
func short(s string) string { return s[:min(len(s), 1500)] }

func told(p api.Program) string {
	return short(fmt.Sprintf("depth %d, locals %d | %q %d %q %d | %d", p.Depth, p.Locals, p.Texts, p.Nums, p.Sets, p.NumSets, p.Code))
}

func toldBytes(b []byte) string { return short(fmt.Sprintf("% x", b)) }

// sameProgram: whether two programs are alike; an empty list and none are (R5).
func sameProgram(a, b api.Program) bool {
	return a.Depth == b.Depth && a.Locals == b.Locals && slices.Equal(a.Texts, b.Texts) && slices.Equal(a.Nums, b.Nums) &&
		slices.EqualFunc(a.Sets, b.Sets, slices.Equal) && slices.EqualFunc(a.NumSets, b.NumSets, slices.Equal) && slices.Equal(a.Code, b.Code)
}

// tryEncode holds Encode against the model, and Decode against what Encode answers; it hands on the bytes, none where there is no form.
func tryEncode(t *testing.T, p api.Program) []byte {
	t.Helper()
	got, e := code.Encode(p)
	if why := formless(p); why != "" {
		if len(got) != 0 || e != api.ErrCodeProgram {
			t.Fatalf("Encode(%s) = %s, %d, want %d: %s", told(p), toldBytes(got), e, api.ErrCodeProgram, why)
		}
		return nil
	}
	want := slices.Concat(fields(p)...)
	if e != api.OK || !bytes.Equal(got, want) {
		t.Fatalf("Encode(%s) = %s, %d, want %s", told(p), toldBytes(got), e, toldBytes(want))
	}
	back, err := code.Decode(got)
	if err != nil || !sameProgram(back, p) {
		t.Fatalf("Decode(%s) = %s, %v, want %s", toldBytes(got), told(back), err, told(p))
	}
	return got
}

// tryDecode holds Decode against the model, and Encode against what Decode answers; it hands on the fault's code and place.
func tryDecode(t *testing.T, b []byte) (api.Errno, int) {
	t.Helper()
	want, number, at := readModel(b)
	got, err := code.Decode(b)
	if number == api.OK {
		if err != nil || !sameProgram(got, want) {
			t.Fatalf("Decode(%s) = %s, %v, want %s", toldBytes(b), told(got), err, told(want))
		}
		if again, e := code.Encode(got); e != api.OK || !bytes.Equal(again, b) {
			t.Fatalf("Encode(%s) = %s, %d, want %s", told(got), toldBytes(again), e, toldBytes(b))
		}
		return api.OK, 0
	}
	f, is := err.(*api.Fault)
	if !is || f == nil || *f != (api.Fault{Code: number, At: at}) || at < 0 || at > len(b) || !sameProgram(got, api.Program{}) {
		t.Fatalf("Decode(%s) = %s, %v, want %d at %d", toldBytes(b), told(got), err, number, at)
	}
	return number, at
}

// fault is a place in bytes with the error that is told of it.
type fault struct {
	code api.Errno
	at   int
}

// wantFault holds Decode against the model and against the fault that is written down here; OK is none.
func wantFault(t *testing.T, b []byte, want fault) {
	t.Helper()
	if number, at := tryDecode(t, b); (fault{number, at}) != want {
		t.Errorf("Decode(%s): %d at %d, want %d at %d", toldBytes(b), number, at, want.code, want.at)
	}
}

// wantForm holds Encode against the model and against what is written down here: whether the program has a form.
func wantForm(t *testing.T, name string, p api.Program, want bool) {
	t.Helper()
	if got := tryEncode(t, p) != nil; got != want {
		t.Errorf("%s: a form: %t, want %t", name, got, want)
	}
}

// joined lays bytes, single ones and lists of them, one behind the other.
func joined(pieces ...any) []byte {
	var out []byte
	for _, piece := range pieces {
		switch x := piece.(type) {
		case int:
			out = append(out, byte(x))
		case []byte:
			out = append(out, x...)
		case string:
			out = append(out, x...)
		}
	}
	return out
}

// start is the head with Depth 1 and no locals: the six bytes ahead of the Texts.
const start = "BRT\x01\x01\x00"

// all is the code of the constraint true.
func all() []api.Instr { return []api.Instr{{Op: api.OpAll}, {Op: api.OpEnd}} }

// upTo are the numbers from the first one on, so many of them.
func upTo(first, size int) []int {
	out := make([]int, size)
	for i := range out {
		out[i] = first + i
	}
	return out
}

// names are rising texts, so many of them.
func names(size int) []string {
	out := make([]string, size)
	for i := range out {
		out[i] = fmt.Sprintf("k%05d", i)
	}
	return out
}

// alone makes a list of lists of one element each.
func alone[T any](list []T) [][]T {
	var out [][]T
	for _, x := range list {
		out = append(out, []T{x})
	}
	return out
}
