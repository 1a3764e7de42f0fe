package bitset_test

import (
	"iter"
	"math"
	"slices"
	"testing"

	"berth/api"
	"berth/bitset"
)

// P1.2: Has, Next, Prev, Rank, Select at any int; Size, Count, Members, Words.
func TestAsk(t *testing.T) {
	for _, x := range subjects(t, append(slices.Clone(smallSizes), api.MaxUniverse-1, api.MaxUniverse)...) {
		checkLike(t, x.name, x.set, x.model)
		all := x.members()
		for _, i := range anyInts(x.size) {
			askAt(t, x, all, i)
		}
	}
}

// askAt holds the answers at i against the list of all members.
func askAt(t *testing.T, x subject, all []int, i int) {
	t.Helper()
	at, found := slices.BinarySearch(all, i)
	next, prev, sel := -1, -1, -1
	if at < len(all) {
		next = all[at]
	}
	if found {
		prev = i
	} else if at > 0 {
		prev = all[at-1]
	}
	if i >= 0 && i < len(all) {
		sel = all[i]
	}
	if got := x.set.Has(i); got != found {
		t.Errorf("%s: Has(%d): %v", x.name, i, got)
	}
	if got := x.set.Next(i); got != next {
		t.Errorf("%s: Next(%d): %d, want %d", x.name, i, got, next)
	}
	if got := x.set.Prev(i); got != prev {
		t.Errorf("%s: Prev(%d): %d, want %d", x.name, i, got, prev)
	}
	if got := x.set.Rank(i); got != at {
		t.Errorf("%s: Rank(%d): %d, want %d", x.name, i, got, at)
	}
	if got := x.set.Select(i); got != sel {
		t.Errorf("%s: Select(%d): %d, want %d", x.name, i, got, sel)
	}
}

// P1.2: Select up to the last member of a large set.
func TestSelectFar(t *testing.T) {
	for _, x := range subjects(t, api.MaxUniverse) {
		for k, i := range x.members() {
			if got := x.set.Select(k); got != i {
				t.Fatalf("%s: Select(%d): %d, want %d", x.name, k, got, i)
			}
		}
		if n := x.set.Count(); x.set.Select(n) != -1 {
			t.Errorf("%s: Select(%d): %d", x.name, n, x.set.Select(n))
		}
	}
}

// The asking half of the chapter's example 1.
func TestAskExample(t *testing.T) {
	s := from(t, 70, 65, 3, 3)
	for _, c := range []struct {
		what      string
		got, want int
	}{
		{"Next(4)", s.Next(4), 65}, {"Next(66)", s.Next(66), -1}, {"Next(-9)", s.Next(-9), 3},
		{"Prev(64)", s.Prev(64), 3}, {"Prev(2)", s.Prev(2), -1},
		{"Rank(65)", s.Rank(65), 1}, {"Rank(66)", s.Rank(66), 2},
		{"Select(1)", s.Select(1), 65}, {"Select(2)", s.Select(2), -1},
	} {
		if c.got != c.want {
			t.Errorf("%s: %d, want %d", c.what, c.got, c.want)
		}
	}
}

// P1.2: Words are those of which FromWords makes this set.
func TestWordsBack(t *testing.T) {
	for _, x := range subjects(t, smallSizes...) {
		s, err := bitset.FromWords(x.set.Size(), x.set.Words())
		if err != api.OK {
			t.Fatalf("%s: %d", x.name, err)
		}
		check(t, x.name, s, x.model)
	}
}

// R6: the lists that are answered are new memory, spare room too.
func TestListsAreNew(t *testing.T) {
	s := from(t, 129, 0, 64, 128)
	words, members := s.Words(), s.Members()
	words = words[:cap(words)]
	for i := range words {
		words[i] = math.MaxUint64
	}
	members = members[:cap(members)]
	for i := range members {
		members[i] = 7
	}
	check(t, "after the answers were changed", s, newModel(129, 0, 64, 128))
	kept := s.Words()
	s.Add(1)
	if kept[0] != 1 {
		t.Errorf("an answer changed with the set: %x", kept)
	}
}

// P1.3: All gives the members, rising, as often as it is gone over.
func TestAllGivesMembers(t *testing.T) {
	for _, x := range subjects(t, append(slices.Clone(smallSizes), api.MaxUniverse)...) {
		all := x.set.All()
		if all == nil {
			t.Fatalf("%s: a nil iterator", x.name)
		}
		for range 2 {
			if got := slices.Collect(all); !slices.Equal(got, x.members()) {
				t.Errorf("%s: %v, want %v", x.name, got, x.members())
			}
		}
	}
}

// P1.3: every change after the call of All is unseen: ahead of a walk, within it, between two walks.
func TestAllIsFixed(t *testing.T) {
	full := newModel(130).pick(130, func(int) bool { return true }).members()
	changes := map[string]func(*bitset.Set){
		"Add":        func(s *bitset.Set) { s.Add(5); s.Add(127) },
		"Remove":     func(s *bitset.Set) { s.Remove(4); s.Remove(100) },
		"Grow":       func(s *bitset.Set) { s.Grow(500); s.Add(499) },
		"AndWith":    func(s *bitset.Set) { s.AndWith(nil) },
		"OrWith":     func(s *bitset.Set) { s.OrWith(from(t, 130, full...)) },
		"AndNotWith": func(s *bitset.Set) { s.AndNotWith(s) },
	}
	want := []int{1, 4, 63, 64, 100, 129}
	for name, change := range changes {
		ahead := from(t, 130, want...)
		all := ahead.All()
		change(ahead)
		if got := slices.Collect(all); !slices.Equal(got, want) {
			t.Errorf("%s ahead of the walk: %v", name, got)
		}
		within := from(t, 130, want...)
		all = within.All()
		var got []int
		for i := range all {
			got = append(got, i)
			change(within)
		}
		if !slices.Equal(got, want) {
			t.Errorf("%s within the walk: %v", name, got)
		}
		if got := slices.Collect(all); !slices.Equal(got, want) {
			t.Errorf("%s between two walks: %v", name, got)
		}
	}
}

// P1.3, R8: who stops early gets no more; the next walk begins anew.
func TestAllStops(t *testing.T) {
	all := from(t, 200, 2, 3, 70, 199).All()
	for stop := range 4 {
		var got []int
		all(func(i int) bool {
			got = append(got, i)
			return len(got) <= stop
		})
		if !slices.Equal(got, []int{2, 3, 70, 199}[:stop+1]) {
			t.Errorf("stopped at %d: %v", stop, got)
		}
	}
}

// R8: two walks over one iterator at a time don't disturb each other.
func TestAllWithinAll(t *testing.T) {
	all := from(t, 70, 1, 66).All()
	var got []int
	for i := range all {
		for j := range all {
			got = append(got, 100*i+j)
		}
	}
	if !slices.Equal(got, []int{101, 166, 6601, 6666}) {
		t.Errorf("%v", got)
	}
}

// Example 5 of the chapter.
func TestAllExample(t *testing.T) {
	s := from(t, 9, 1, 4, 7)
	next, stop := iter.Pull(s.All())
	defer stop()
	if i, ok := next(); i != 1 || !ok {
		t.Errorf("first: %d, %v", i, ok)
	}
	s.Remove(4)
	s.Add(5)
	if i, ok := next(); i != 4 || !ok {
		t.Errorf("second: %d, %v", i, ok)
	}
	if i, ok := next(); i != 7 || !ok {
		t.Errorf("third: %d, %v", i, ok)
	}
	if i, ok := next(); ok {
		t.Errorf("fourth: %d", i)
	}
	if got := slices.Collect(s.All()); !slices.Equal(got, []int{1, 5, 7}) {
		t.Errorf("asked for now: %v", got)
	}
}

// P1.4: Clone, of its own memory.
func TestClone(t *testing.T) {
	for _, x := range subjects(t, append(slices.Clone(smallSizes), api.MaxUniverse)...) {
		c := x.set.Clone()
		check(t, x.name, c, x.model)
		if c == x.set {
			t.Errorf("%s: the set itself", x.name)
		}
		checkApart(t, x.name, c, x)
	}
}

// checkApart changes the answer, then the argument: neither may be seen in the other.
func checkApart(t *testing.T, what string, answer *bitset.Set, x subject) {
	t.Helper()
	flip(answer)
	checkLike(t, what+": the argument after the answer's change", x.set, x.model)
	was := model{answer.Size(), map[int]bool{}}
	for _, i := range answer.Members() {
		was.in[i] = true
	}
	flip(x.set)
	check(t, what+": the answer after the argument's change", answer, was)
	flip(x.set)
}

// flip changes every place of a set; twice is as it was.
func flip(s *bitset.Set) {
	for i := range s.Size() {
		if !s.Add(i) {
			s.Remove(i)
		}
	}
}
