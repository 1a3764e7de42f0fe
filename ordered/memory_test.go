package ordered_test

import (
	"math"
	"reflect"
	"slices"
	"strconv"
	"testing"

	"berth/api"
	"berth/bitset"
	"berth/ordered"
)

// roomy is the list with spare room behind it that is filled.
func roomy[T any](list []T, filling T) []T {
	whole := append(slices.Clone(list), filling, filling, filling)
	return whole[:len(list):len(whole)]
}

// overwrite writes into every place of a list, spare room included.
func overwrite[T any](list []T, with T) {
	list = list[:cap(list)]
	for i := range list {
		list[i] = with
	}
}

// overlap: do two lists, spare room included, share a byte?
func overlap(a, b any) bool {
	from, to := bounds(reflect.ValueOf(a))
	begin, end := bounds(reflect.ValueOf(b))
	return from < end && begin < to
}

// bounds is where a list with its spare room begins and ends.
func bounds(list reflect.Value) (from, to uintptr) {
	from = list.Pointer()
	return from, from + uintptr(list.Cap())*list.Type().Elem().Size()
}

// fill changes a set in a way that is another one each time.
func fill(s *bitset.Set, turn int) {
	for place := range s.Size() {
		if turn%2 == 0 {
			s.Add(place)
		} else {
			s.Remove(place)
		}
	}
	if turn%3 == 0 {
		s.Grow(200)
		s.Add(199)
	}
}

// sets is every set that an index tells of a few keys and numbers.
func sets(x *ordered.Index) []*bitset.Set {
	var all []*bitset.Set
	for _, key := range []string{"cores", "rank", "none", ""} {
		all = append(all, x.Has(key), x.Among(key, nil), x.Among(key, []int{4}), x.Among(key, []int{16, 4, 16}))
		all = append(all, x.Between(key, 4, 4), x.Between(key, 5, 4), x.Between(key, math.MinInt, math.MaxInt))
		for _, cmp := range cmps {
			all = append(all, x.Find(key, cmp, 4), x.Find(key, cmp, 5))
		}
		for _, set := range x.Rows(key) {
			all = append(all, set)
		}
	}
	return all
}

// P8.5, R6: the list that Among is handed is neither changed, in its spare room neither, nor kept.
func TestListsHandedIn(t *testing.T) {
	b := example(t)
	for _, list := range [][]int{nil, {4}, {16, 4, 16, 9, 4}, {9, 7, 5}, {16, 16, 9, 4, 4}, {math.MaxInt, 4, math.MinInt}} {
		asked := roomy(list, 16)
		was := slices.Clone(asked[:cap(asked)])
		got := b.x.Among("cores", asked)
		want := got.Members()
		if !slices.Equal(asked[:cap(asked)], was) {
			t.Errorf("Among has written into %v: %v", was, asked[:cap(asked)])
		}
		overwrite(asked, 16)
		is(t, "Among, its list overwritten", got, 8, want)
		b.check("the list is overwritten")
	}
}

// P8.5, R6: the lists that Keys answers, spare room included, are new ones: who writes over them changes nothing.
func TestListsAnswered(t *testing.T) {
	b := example(t)
	var seen [][]string
	for i, call := range []func() api.Errno{
		func() api.Errno { return b.put("disk", 1, 1) },
		func() api.Errno { return b.put("disk", 1, 1) },
		func() api.Errno { return b.del("rank", 3) },
		func() api.Errno { return b.put("aaa", 3, 0) },
	} {
		call()
		for range 2 {
			keys := b.x.Keys()
			for _, other := range seen {
				if overlap(keys, other) {
					t.Errorf("behind call %d: Keys answers memory that was answered before", i)
				}
			}
			seen = append(seen, keys)
			overwrite(keys, "over")
		}
		b.check("behind call " + strconv.Itoa(i))
	}
}

// P8.2, P8.5, R6: every set that is answered is a new one: who fills it, empties it or makes it greater changes neither the index nor another set.
func TestNoSetIsShared(t *testing.T) {
	b := made(t, 70)
	b.put("cores", 0, 4)
	b.put("cores", 69, 4)
	b.put("cores", 64, 16)
	b.put("rank", 64, 5)
	seen := append(sets(b.x), sets(b.x)...)
	for i, s := range seen {
		if slices.Contains(seen[:i], s) {
			t.Fatalf("set %d was answered before", i)
		}
	}
	for i, s := range seen {
		later := make([][]int, 0, len(seen))
		for _, other := range seen[i+1:] {
			later = append(later, other.Members())
		}
		fill(s, i)
		for j, other := range seen[i+1:] {
			if !slices.Equal(other.Members(), later[j]) || other.Size() != 70 {
				t.Fatalf("set %d has become %v of %d by a change of set %d", i+1+j, other.Members(), other.Size(), i)
			}
		}
		b.check("set " + strconv.Itoa(i) + " is overwritten")
	}
}

// P8.5, R6: what was answered stays as it was, whatever is done to the index later.
func TestAnswersStay(t *testing.T) {
	b := example(t)
	told := sets(b.x)
	var was [][]int
	for _, s := range told {
		was = append(was, s.Members())
	}
	keys := b.x.Keys()
	b.del("cores", 3)
	b.put("cores", 1, 16)
	b.put("cores", 3, 4)
	b.put("disk", 7, 4)
	b.del("rank", 3)
	b.del("cores", 5)
	for i, s := range told {
		if !slices.Equal(s.Members(), was[i]) || s.Size() != 8 {
			t.Errorf("set %d has become %v of %d, was %v", i, s.Members(), s.Size(), was[i])
		}
	}
	texts(t, "Keys", keys, "cores", "rank")
	b.check("changed")
}

// R9: two indexes have nothing to do with each other.
func TestIndexesAreApart(t *testing.T) {
	a, b := made(t, 6), made(t, 6)
	a.put("cores", 1, 4)
	b.check("the other one")
	b.put("cores", 1, 16)
	b.put("cores", 2, 4)
	a.check("the one")
	b.del("cores", 1)
	a.put("cores", 3, 4)
	a.check("the one")
	b.check("the other one")
}
