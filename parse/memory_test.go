package parse_test

import (
	"slices"
	"strings"
	"sync"
	"testing"
	"unsafe"

	"berth/api"
	"berth/parse"
)

// P12.4: what is answered is the caller's alone: written over, the spare room of each list too, it changes no later answer.
func TestAnswersAreNew(t *testing.T) {
	for _, source := range whole {
		want, places, _, _ := model(source)
		first, offsets, _ := parse.Parse(source)
		second, others, _ := parse.Parse(source)
		for i := range first.Parts {
			kids := first.Parts[i].Kids[:cap(first.Parts[i].Kids)]
			for j := range kids {
				kids[j] = 77
			}
		}
		parts := first.Parts[:cap(first.Parts)]
		for i := range parts {
			parts[i] = api.Part{Kind: 77, Text: "x", Num: 77, Kids: []int{77}}
		}
		offsets = offsets[:cap(offsets)]
		for i := range offsets {
			offsets[i] = 77
		}
		if !sameTree(second, want) || !slices.Equal(others, places) {
			t.Errorf("Parse(%q) shares memory with another answer", source)
		}
		expect(t, source, want, places, nil)
	}
}

// P12.4, R6: no two lists of one answer share memory: each one written over, spare room too, leaves the others as they are.
func TestListsShareNothing(t *testing.T) {
	for _, source := range whole {
		want, places, _, _ := model(source)
		for i := range want.Parts {
			tree, offsets, _ := parse.Parse(source)
			kids := tree.Parts[i].Kids[:cap(tree.Parts[i].Kids)]
			for j := range kids {
				kids[j] = 77
			}
			tree.Parts[i].Kids = want.Parts[i].Kids
			if !sameTree(tree, want) || !slices.Equal(offsets, places) {
				t.Errorf("Parse(%q): the kids of part %d share memory", source, i)
			}
		}
		tree, offsets, _ := parse.Parse(source)
		offsets = offsets[:cap(offsets)]
		for i := range offsets {
			offsets[i] = 77
		}
		if !sameTree(tree, want) {
			t.Errorf("Parse(%q): the offsets share memory with the tree", source)
		}
	}
}

// P12.4: a fault is new, too, each time.
func TestFaultsAreNew(t *testing.T) {
	for _, source := range []string{"", "x", "true &", strings.Repeat("!", 33), "{" + strings.Repeat("1,", 65), strings.Repeat("!1<2||", 300) + "true"} {
		_, _, want, _ := model(source)
		_, _, first := parse.Parse(source)
		_, _, second := parse.Parse(source)
		*first.(*api.Fault) = api.Fault{Code: api.ErrNil, At: 77, Name: "x", Cause: api.ErrNil}
		if !sameFault(second, want) {
			t.Errorf("Parse(%.20q): %v shares memory with another fault", source, second)
		}
		expect(t, source, api.Tree{}, nil, want)
	}
}

// within: whether a text that isn't empty lies in the memory of another.
func within(piece, whole string) bool {
	from, at := uintptr(unsafe.Pointer(unsafe.StringData(whole))), uintptr(unsafe.Pointer(unsafe.StringData(piece)))
	return piece != "" && at >= from && at < from+uintptr(len(whole))
}

// P12.4: no text of a tree lies in the memory of the source.
func TestTextsAreNew(t *testing.T) {
	for _, source := range whole {
		tree, _, _ := parse.Parse(source)
		for _, part := range tree.Parts {
			if within(part.Text, source) {
				t.Errorf("Parse(%q): the text %q is the source's memory", source, part.Text)
			}
		}
	}
}

// P12.4, R9: the answer hangs on the source alone: not on what was read before, nor on what is read at the same time.
func TestAnswersHangOnTheSource(t *testing.T) {
	sources := append([]string{"", "x", "true &", strings.Repeat("(", 40), "{" + strings.Repeat("1,", 65)}, whole...)
	var all sync.WaitGroup
	for k := range 8 {
		all.Go(func() {
			for i := range 40 {
				source := sources[(i*(k+1)+k)%len(sources)]
				want, places, f, _ := model(source)
				tree, offsets, err := parse.Parse(strings.Clone(source))
				if !sameTree(tree, want) || !slices.Equal(offsets, places) || !sameFault(err, f) {
					t.Errorf("Parse(%q) = %s, %v", show(source), told(tree, offsets), err)
				}
			}
		})
	}
	all.Wait()
}
