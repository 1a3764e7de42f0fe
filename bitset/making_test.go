package bitset_test

import (
	"math"
	"slices"
	"testing"

	"berth/api"
	"berth/bitset"
)

var wrongSizes = []int{math.MinInt, -65, -64, -1, api.MaxUniverse + 1, api.MaxUniverse + 64, 1 << 32, math.MaxInt}

// P1.1: New.
func TestNew(t *testing.T) {
	for _, n := range append(slices.Clone(smallSizes), api.MaxUniverse-1, api.MaxUniverse) {
		s, err := bitset.New(n)
		if err != api.OK {
			t.Fatalf("New(%d): %d", n, err)
		}
		check(t, "New", s, newModel(n))
	}
	for _, n := range wrongSizes {
		if s, err := bitset.New(n); s != nil || err != api.ErrSize {
			t.Errorf("New(%d): %v, %d", n, s, err)
		}
	}
}

// P1.1: From.
func TestFrom(t *testing.T) {
	check(t, "unsorted, twice", from(t, 70, 65, 3, 3), newModel(70, 3, 65))
	check(t, "no places", from(t, 70), newModel(70))
	check(t, "size 0", from(t, 0), newModel(0))
	check(t, "greatest size", from(t, api.MaxUniverse, api.MaxUniverse-1, 0), newModel(api.MaxUniverse, 0, api.MaxUniverse-1))
	many := make([]int, 1000)
	check(t, "more places than the universe has", from(t, 1, many...), newModel(1, 0))
	for _, c := range []struct {
		n      int
		places []int
		want   api.Errno
	}{
		{0, []int{0}, api.ErrPlace},
		{5, []int{4, 5}, api.ErrPlace},
		{5, []int{5, 4}, api.ErrPlace},
		{5, []int{-1}, api.ErrPlace},
		{64, []int{64}, api.ErrPlace},
		{65, []int{65}, api.ErrPlace},
		{65, []int{math.MinInt}, api.ErrPlace},
		{65, []int{math.MaxInt}, api.ErrPlace},
		{api.MaxUniverse, []int{api.MaxUniverse}, api.ErrPlace},
		{-1, []int{-1}, api.ErrSize},
		{api.MaxUniverse + 1, []int{-1}, api.ErrSize},
	} {
		if s, err := bitset.From(c.n, c.places); s != nil || err != c.want {
			t.Errorf("From(%d, %v): %v, %d, want %d", c.n, c.places, s, err, c.want)
		}
	}
	for _, n := range wrongSizes {
		if s, err := bitset.From(n, nil); s != nil || err != api.ErrSize {
			t.Errorf("From(%d, nil): %v, %d", n, s, err)
		}
	}
}

// P1.1: FromWords.
func TestFromWords(t *testing.T) {
	full := slices.Repeat([]uint64{math.MaxUint64}, api.MaxUniverse/64)
	for _, c := range []struct {
		n     int
		words []uint64
		want  api.Errno
	}{
		{0, nil, api.OK},
		{0, []uint64{}, api.OK},
		{0, []uint64{0}, api.ErrWords},
		{1, []uint64{1}, api.OK},
		{1, []uint64{2}, api.ErrPlace},
		{1, nil, api.ErrWords},
		{63, []uint64{1<<63 - 1}, api.OK},
		{63, []uint64{1 << 63}, api.ErrPlace},
		{64, []uint64{math.MaxUint64}, api.OK},
		{64, []uint64{0, 0}, api.ErrWords},
		{65, []uint64{math.MaxUint64, 1}, api.OK},
		{65, []uint64{0, 2}, api.ErrPlace},
		{65, []uint64{0, 1 << 63}, api.ErrPlace},
		{65, []uint64{0}, api.ErrWords},
		{128, []uint64{1, 1 << 63}, api.OK},
		{128, []uint64{1, 1, 0}, api.ErrWords},
		{api.MaxUniverse, full, api.OK},
		{api.MaxUniverse - 1, full, api.ErrPlace},
		// Two errors at once: the first one that the chapter names.
		{1, []uint64{2, 0}, api.ErrWords},
		{65, []uint64{2}, api.ErrWords},
		{-1, []uint64{2}, api.ErrSize},
		{api.MaxUniverse + 1, nil, api.ErrSize},
	} {
		s, err := bitset.FromWords(c.n, c.words)
		if err != c.want || (s == nil) != (c.want != api.OK) {
			t.Errorf("FromWords(%d, %x): %v, %d, want %d", c.n, c.words, s, err, c.want)
			continue
		}
		if s != nil && (s.Size() != c.n || !slices.Equal(s.Words(), c.words)) {
			t.Errorf("FromWords(%d, %x): size %d, words %x", c.n, c.words, s.Size(), s.Words())
		}
	}
	for _, n := range wrongSizes {
		if s, err := bitset.FromWords(n, nil); s != nil || err != api.ErrSize {
			t.Errorf("FromWords(%d, nil): %v, %d", n, s, err)
		}
	}
}

// P1.1: which bit stands for which place.
func TestFromWordsBits(t *testing.T) {
	for i := range 200 {
		words := make([]uint64, 4)
		words[i/64] = 1 << (i % 64)
		s, err := bitset.FromWords(200, words)
		if err != api.OK {
			t.Fatalf("FromWords at %d: %d", i, err)
		}
		check(t, "one bit", s, newModel(200, i))
	}
}

// P1.1, R6: lists that are handed in are neither kept nor changed, spare room included.
func TestMakingKeepsNoList(t *testing.T) {
	places := []int{3, 1, 3, 9, 9}
	s := from(t, 70, places[:3]...)
	words := []uint64{5, 1, 7, 7}
	u, err := bitset.FromWords(65, words[:2])
	if err != api.OK {
		t.Fatal(err)
	}
	s.Add(60)
	u.Add(1)
	u.Grow(256)
	u.Add(130)
	if !slices.Equal(places, []int{3, 1, 3, 9, 9}) || !slices.Equal(words, []uint64{5, 1, 7, 7}) {
		t.Errorf("changed: %v, %v", places, words)
	}
	places[0], words[0] = 8, 0
	check(t, "From", s, newModel(70, 1, 3, 60))
	check(t, "FromWords", u, newModel(256, 0, 1, 2, 64, 130))
}

// Examples 1 and 2 of the chapter; the asking half of example 1 is in TestAskExample.
func TestMakingExamples(t *testing.T) {
	s := from(t, 70, 65, 3, 3)
	if s.Size() != 70 || s.Count() != 2 || !slices.Equal(s.Members(), []int{3, 65}) || !slices.Equal(s.Words(), []uint64{8, 2}) {
		t.Errorf("example 1: %d, %d, %v, %v", s.Size(), s.Count(), s.Members(), s.Words())
	}
	if _, err := bitset.FromWords(65, []uint64{0, 2}); err != api.ErrPlace {
		t.Errorf("example 2: %d", err)
	}
	if _, err := bitset.FromWords(64, []uint64{0, 0}); err != api.ErrWords {
		t.Errorf("example 2: %d", err)
	}
	if _, err := bitset.FromWords(-1, nil); err != api.ErrSize {
		t.Errorf("example 2: %d", err)
	}
	if _, err := bitset.New(65537); err != api.ErrSize {
		t.Errorf("example 2: %d", err)
	}
}

// The errors' numbers, as the chapter's table has them.
func TestErrorNumbers(t *testing.T) {
	got := []api.Errno{api.OK, api.ErrNil, api.ErrSize, api.ErrPlace, api.ErrShrink, api.ErrWords}
	if !slices.Equal(got, []api.Errno{0, 1, 11, 12, 13, 14}) || api.MaxUniverse != 65536 {
		t.Errorf("%d, %d", got, api.MaxUniverse)
	}
}
