package posting_test

import (
	"reflect"
	"slices"
	"strconv"
	"testing"

	"berth/api"
	"berth/bitset"
	"berth/posting"
)

// roomy is the list with spare room behind it that is filled.
func roomy[T any](list []T, filling T) []T {
	whole := append(slices.Clone(list), filling, filling, filling)
	return whole[:len(list):len(whole)]
}

func roomyLabels(pieces ...string) []api.Label {
	return roomy(tags(pieces...), api.Label{Key: "over", Value: "over"})
}

// overwrite writes into every place of a list, spare room included.
func overwrite[T any](list []T, with T) {
	list = list[:cap(list)]
	for i := range list {
		list[i] = with
	}
}

// memory is every list that was handed in or answered so far; they are kept, so that none's place is given to another.
type memory struct {
	t    *testing.T
	kept []reflect.Value
}

// apart holds the lists, spare room included, to sharing no byte with each other or with any before them.
func (m *memory) apart(what string, lists ...any) {
	m.t.Helper()
	for _, l := range lists {
		list := reflect.ValueOf(l)
		if list.Cap() == 0 {
			continue
		}
		from, to := bounds(list)
		for _, other := range m.kept {
			if begin, end := bounds(other); from < end && begin < to {
				m.t.Errorf("%s: a list of %s shares memory with a list of %s", what, list.Type(), other.Type())
			}
		}
		m.kept = append(m.kept, list)
	}
}

// bounds is where a list with its spare room begins and ends.
func bounds(list reflect.Value) (from, to uintptr) {
	from = list.Pointer()
	return from, from + uintptr(list.Cap())*list.Type().Elem().Size()
}

// sets is every set that an index tells of a few texts, and ahead of them the live slots.
func sets(x *posting.Index) []*bitset.Set {
	all := []*bitset.Set{x.Live()}
	for _, key := range []string{"app", "disk", "zone", "none"} {
		all = append(all, x.Has(key), x.In(key, nil), x.In(key, []string{"x"}), x.In(key, []string{"x", "y", "x"}))
		for _, value := range []string{"x", "y", "none"} {
			all = append(all, x.With(key, value))
		}
	}
	return all
}

// P7.1, P7.2, P7.4, R6: no list that is handed in or answered, spare room included, is kept or shared with another: who writes over all of them changes nothing.
func TestNoListIsShared(t *testing.T) {
	b := made(t, 70)
	mem := &memory{t: t}
	first, next, wrong := roomyLabels("app", "x", "zone", "x"), roomyLabels("disk", "y", "zone", "y"), roomyLabels("zone", "", "app", "")
	asked := roomy([]string{"y", "x", "y"}, "none")
	mem.apart("what is given", first, next, wrong, asked)
	for i, call := range []func() api.Errno{
		func() api.Errno { return b.put(0, first...) },
		func() api.Errno { return b.put(69, first...) },
		func() api.Errno { return b.put(69, next...) },
		func() api.Errno { return b.put(5, wrong...) },
		func() api.Errno { return b.set(69, next...) },
		func() api.Errno { return b.set(69, next...) },
		func() api.Errno { return b.set(69, wrong...) },
		func() api.Errno { return b.set(1, next...) },
		func() api.Errno { return b.drop(0) },
		func() api.Errno { return b.put(0, next...) },
	} {
		call()
		b.x.In("zone", asked)
		if !slices.Equal(first[:5], append(tags("app", "x", "zone", "x"), tags("over", "over", "over", "over", "over", "over")...)) ||
			!slices.Equal(next[:5], append(tags("disk", "y", "zone", "y"), tags("over", "over", "over", "over", "over", "over")...)) ||
			!slices.Equal(wrong[:5], append(tags("zone", "", "app", ""), tags("over", "over", "over", "over", "over", "over")...)) ||
			!slices.Equal(asked[:6], []string{"y", "x", "y", "none", "none", "none"}) {
			t.Fatalf("call %d has written into %v, %v, %v or %q", i, first[:5], next[:5], wrong[:5], asked[:6])
		}
		for range 2 {
			of, _ := b.x.Of(69)
			too, _ := b.x.Of(0)
			keys, values := b.x.Keys(), b.x.Values("zone")
			mem.apart("behind call "+strconv.Itoa(i), of, too, keys, values)
			overwrite(of, api.Label{Key: "over", Value: "over"})
			overwrite(too, api.Label{Key: "over", Value: "over"})
			overwrite(keys, "over")
			overwrite(values, "over")
		}
		b.check("behind call " + strconv.Itoa(i))
	}
	overwrite(first, api.Label{Key: "over", Value: "over"})
	overwrite(next, api.Label{Key: "over", Value: "over"})
	overwrite(asked, "over")
	b.check("all that was given is overwritten")
}

// P7.2, P7.3, R6: every set that is answered is a new one: who fills it, empties it or makes it greater changes neither the index nor another set.
func TestNoSetIsShared(t *testing.T) {
	b := made(t, 70)
	b.put(0, tags("app", "x", "zone", "x")...)
	b.put(69, tags("zone", "y")...)
	b.put(64, tags("zone", "x")...)
	var seen []*bitset.Set
	for range 2 {
		seen = append(seen, sets(b.x)...)
	}
	for i, s := range seen {
		for _, other := range seen[:i] {
			if s == other {
				t.Fatalf("set %d was answered before", i)
			}
		}
	}
	for i, s := range seen {
		later := make([][]int, 0, len(seen))
		for _, other := range seen[i+1:] {
			later = append(later, other.Members())
		}
		fill(s, i)
		for j, other := range seen[i+1:] {
			if !slices.Equal(other.Members(), later[j]) || other.Size() != 70 {
				t.Fatalf("set %d has become %v of %d by a change of set %d", i+1+j, other.Members(), other.Size(), i)
			}
		}
		b.check("set " + strconv.Itoa(i) + " is overwritten")
	}
}

// fill changes a set in a way that is another one each time.
func fill(s *bitset.Set, turn int) {
	for place := range s.Size() {
		if turn%2 == 0 {
			s.Add(place)
		} else {
			s.Remove(place)
		}
	}
	if turn%3 == 0 {
		s.Grow(200)
		s.Add(199)
	}
}

// P7.2 to P7.4, R6: what was answered stays as it was, whatever is done to the index later.
func TestAnswersStay(t *testing.T) {
	b := made(t, 70)
	b.put(0, tags("app", "x", "zone", "x")...)
	b.put(69, tags("zone", "y")...)
	told := sets(b.x)
	var was [][]int
	for _, s := range told {
		was = append(was, s.Members())
	}
	of, _ := b.x.Of(0)
	keys, values := b.x.Keys(), b.x.Values("zone")
	b.set(0, tags("app", "y", "zone", "y")...)
	b.put(1, tags("app", "x", "disk", "x", "zone", "x")...)
	b.drop(69)
	b.put(69, tags("aaa", "")...)
	b.set(1)
	b.drop(0)
	for i, s := range told {
		if !slices.Equal(s.Members(), was[i]) || s.Size() != 70 {
			t.Errorf("set %d has become %v of %d, was %v", i, s.Members(), s.Size(), was[i])
		}
	}
	if !slices.Equal(of, tags("app", "x", "zone", "x")) {
		t.Errorf("Of has become %v", of)
	}
	texts(t, "Keys", keys, "app", "zone")
	texts(t, "Values", values, "x", "y")
	b.check("changed")
}

// R5: an empty list may be nil or empty: both mean the same.
func TestEmptyLists(t *testing.T) {
	a, b := made(t, 3), made(t, 3)
	for _, list := range [][]api.Label{nil, {}} {
		answers(t, "Put", a.x.Put(0, list), api.OK)
		answers(t, "Put", b.x.Put(1, nil), api.OK)
		answers(t, "Set", b.x.Set(1, list), api.OK)
		if l, ok := a.x.Of(0); len(l) != 0 || !ok {
			t.Errorf("Of(0): %v, %v", l, ok)
		}
		answers(t, "Drop", a.x.Drop(0), api.OK)
		answers(t, "Drop", b.x.Drop(1), api.OK)
	}
	answers(t, "Put", a.x.Put(2, nil), api.OK)
	answers(t, "Put", b.x.Put(2, []api.Label{}), api.OK)
	same(t, "nil and empty", a.x, b.x, true)
}

// R9: two indexes have nothing to do with each other.
func TestIndexesAreApart(t *testing.T) {
	a, b := made(t, 6), made(t, 6)
	a.put(1, tags("zone", "x")...)
	b.check("the other one")
	b.put(1, tags("zone", "y")...)
	b.put(2, tags("zone", "x")...)
	a.check("the one")
	b.drop(1)
	a.set(1, tags("disk", "x")...)
	a.check("the one")
	b.check("the other one")
}
