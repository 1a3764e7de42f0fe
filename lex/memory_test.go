package lex_test

import (
	"slices"
	"testing"
	"unsafe"

	"berth/api"
	"berth/lex"
)

// R6, R9: a list that is answered is the caller's alone: written over, its spare room too, it changes no later answer.
func TestListsAreNew(t *testing.T) {
	for _, source := range walked {
		want, f := modelScan(source)
		if f != nil {
			continue
		}
		first, _ := lex.Scan(source)
		second, _ := lex.Scan(source)
		first = first[:cap(first)]
		for i := range first {
			first[i] = api.Token{Kind: 9, Text: "x", Num: 9, At: 9, End: 9}
		}
		third, _ := lex.Scan(source)
		if !slices.Equal(second, want) || !slices.Equal(third, want) {
			t.Errorf("Scan(%q) answers %v and %v, want %v", source, second, third, want)
		}
	}
}

// R6, R9: so is a fault, of every call and of each time that an iterator is ranged over.
func TestFaultsAreNew(t *testing.T) {
	for _, source := range walked {
		_, want := modelScan(source)
		if want == nil {
			continue
		}
		each := lex.Each(source)
		_, scanned := lex.Scan(source)
		_, given := gone(t, "Each", each)
		for _, err := range []error{scanned, given} {
			*err.(*api.Fault) = api.Fault{Code: api.ErrNil, At: 77, Name: "x", Cause: api.ErrNil}
		}
		expect(t, source, func() []api.Token { l, _ := modelScan(source); return l }(), want)
		if _, err := gone(t, "Each", each); !same(err, want) {
			t.Errorf("Each(%.20q) gives %v, want %v", source, err, want)
		}
	}
}

// within: whether a text that isn't empty lies in the memory of another.
func within(piece, whole string) bool {
	from, at := uintptr(unsafe.Pointer(unsafe.StringData(whole))), uintptr(unsafe.Pointer(unsafe.StringData(piece)))
	return piece != "" && at >= from && at < from+uintptr(len(whole))
}

// R6: no text that is answered lies in the memory of what was handed in.
func TestTextsAreNew(t *testing.T) {
	source := `word "text" == _`
	list, err := lex.Scan(source)
	if err != nil {
		t.Fatal(err)
	}
	for _, token := range list {
		if within(token.Text, source) {
			t.Errorf("%v shares the source's memory", token)
		}
	}
	quoted := `"text"`
	if s, err := lex.Unquote(quoted); err != nil || within(s, quoted) {
		t.Errorf("Unquote(%s) = %s, %v shares memory", quoted, s, err)
	}
	if s := "text"; within(lex.Quote(s), s) || within(s, lex.Quote(s)) {
		t.Errorf("Quote(%s) shares memory", s)
	}
}
