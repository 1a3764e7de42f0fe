package posting_test

import (
	"math"
	"slices"
	"strconv"
	"strings"
	"testing"

	"berth/api"
	"berth/posting"
)

// P7.2, P7.3, P7.4, R7: a nil index is read as one of size 0 in which nothing is live; its sets are there all the same.
func TestNilIsEmpty(t *testing.T) {
	var x *posting.Index
	is(t, "Live", x.Live(), 0, nil)
	is(t, "With", x.With("zone", "x"), 0, nil)
	is(t, "In", x.In("zone", []string{"x", "", "x"}), 0, nil)
	is(t, "Has", x.Has("zone"), 0, nil)
	check(t, "nil", x, newModel(0))
	empty := made(t, 0)
	empty.check("of size 0")
}

// P7.2: Of tells the labels of a live slot in their order, also where there are none; of every other int nothing and false.
func TestOf(t *testing.T) {
	b := made(t, 66)
	b.put(65, tags("Zone", "x", "a.example/zone", "", "app", "web", "zone", "-5")...)
	b.put(0)
	b.put(64, tags("zone", "x")...)
	list, ok := b.x.Of(65)
	if !ok || !slices.Equal(list, tags("Zone", "x", "a.example/zone", "", "app", "web", "zone", "-5")) {
		t.Errorf("Of(65): %v, %v", list, ok)
	}
	if list, ok := b.x.Of(0); len(list) != 0 || !ok {
		t.Errorf("Of(0): %v, %v", list, ok)
	}
	for _, slot := range []int{math.MinInt, -66, -1, 1, 63, 66, 128, 65 + 1<<32, math.MaxInt} {
		if list, ok := b.x.Of(slot); len(list) != 0 || ok {
			t.Errorf("Of(%d): %v, %v", slot, list, ok)
		}
	}
	b.check("three slots")
}

// P7.3: a key and a value count together: neither a value under another key nor a key with another value, nor texts that read alike side by side.
func TestKeyAndValueTogether(t *testing.T) {
	b := made(t, 8)
	b.put(0, tags("a", "bc")...)
	b.put(1, tags("ab", "c")...)
	b.put(2, tags("a", "b", "b", "a")...)
	b.put(3, tags("a", "a", "b", "b")...)
	b.put(4, tags("a", "")...)
	b.put(5, tags("A", "b")...)
	b.put(6, tags("x/a", "b")...)
	is(t, "With(a, bc)", b.x.With("a", "bc"), 8, []int{0})
	is(t, "With(ab, c)", b.x.With("ab", "c"), 8, []int{1})
	is(t, "With(a, b)", b.x.With("a", "b"), 8, []int{2})
	is(t, "With(b, b)", b.x.With("b", "b"), 8, []int{3})
	is(t, "With(a, )", b.x.With("a", ""), 8, []int{4})
	is(t, "With(x/a, b)", b.x.With("x/a", "b"), 8, []int{6})
	is(t, "Has(a)", b.x.Has("a"), 8, []int{0, 2, 3, 4})
	is(t, "In(a, [a b])", b.x.In("a", []string{"a", "b"}), 8, []int{2, 3})
	b.check("alike")
}

// P7.3: In takes values in any order, the same one as often as you like, and ones that no slot has; of an empty list it gives the empty set.
func TestIn(t *testing.T) {
	b := made(t, 100)
	for slot := range 100 {
		b.put(slot, tags("rest", strconv.Itoa(slot%7), "zone", strconv.Itoa(slot%10))...)
	}
	for _, list := range [][]string{nil, {}, {"none"}, {"", "none", "none"}} {
		is(t, "In", b.x.In("zone", list), 100, nil)
	}
	var want []int
	for slot := range 100 {
		if slot%10 == 3 || slot%10 == 9 {
			want = append(want, slot)
		}
	}
	for _, list := range [][]string{{"3", "9"}, {"9", "3"}, {"9", "9", "3", "9", "3"}, {"x", "9", "", "3", "03", "10"}} {
		is(t, "In "+strings.Join(list, " "), b.x.In("zone", list), 100, want)
		is(t, "In of no key", b.x.In("none", list), 100, nil)
	}
	is(t, "In of very many", b.x.In("zone", slices.Repeat([]string{"9", "x", "3"}, 10000)), 100, want)
	b.check("ten zones")
}

// P7.4: keys and values rise byte by byte, each once, however many slots have them and in whatever order they came.
func TestTextsRise(t *testing.T) {
	b := made(t, 20)
	values := []string{"b", "a", "", "B", "-5", "10", "9", "a.b", "a-b", "a_b", "ab", "a0", strings.Repeat("v", 63), strings.Repeat("v", 62)}
	for slot, value := range values {
		b.put(slot, tags("zone", value)...)
	}
	b.put(19, tags("zone", "a")...)
	texts(t, "Values", b.x.Values("zone"), "", "-5", "10", "9", "B", "a", "a-b", "a.b", "a0", "a_b", "ab", "b", strings.Repeat("v", 62), strings.Repeat("v", 63))
	keys := []string{"b", "a", "B", "a/b", "10", "9", "a.b", "a-b", "a_b", "ab"}
	for slot, key := range keys {
		b.set(slot, tags(key, "zone")...)
	}
	texts(t, "Keys", b.x.Keys(), "10", "9", "B", "a", "a-b", "a.b", "a/b", "a_b", "ab", "b", "zone")
	b.check("texts")
}

// P7.3, P7.4: keys and values that several slots share, at the edges of words of 64 bits too.
func TestShared(t *testing.T) {
	b := made(t, 200)
	slots := []int{0, 1, 62, 63, 64, 65, 127, 128, 191, 192, 199}
	for i, slot := range slots {
		b.put(slot, tags("all", "x", "part", strconv.Itoa(i%3))...)
	}
	b.put(100)
	b.put(101, tags("other", "x")...)
	is(t, "Has(all)", b.x.Has("all"), 200, slots)
	is(t, "With(all, x)", b.x.With("all", "x"), 200, slots)
	is(t, "Has(part)", b.x.Has("part"), 200, slots)
	is(t, "With(part, 1)", b.x.With("part", "1"), 200, []int{1, 64, 128, 199})
	if b.x.Count("all", "x") != 11 || b.x.Count("part", "1") != 4 || b.x.Count("part", "3") != 0 {
		t.Error("Count")
	}
	b.check("shared")
	for _, slot := range slots {
		b.drop(slot)
		b.check("without " + strconv.Itoa(slot))
	}
	is(t, "Live", b.x.Live(), 200, []int{100, 101})
	texts(t, "Keys", b.x.Keys(), "other")
}

// P7.1 to P7.4: an index of the greatest size, every slot live.
func TestGreatestFull(t *testing.T) {
	b := made(t, api.MaxUniverse)
	var odd []int
	for slot := range api.MaxUniverse {
		b.put(slot, tags("half", strconv.Itoa(slot%2), "zone", "z"+strconv.Itoa(slot/10000))...)
		if slot%2 == 1 {
			odd = append(odd, slot)
		}
	}
	answers(t, "Put beyond", b.put(api.MaxUniverse), api.ErrSlotRange)
	is(t, "With(half, 1)", b.x.With("half", "1"), api.MaxUniverse, odd)
	if n := b.x.Count("zone", "z6"); n != 5536 {
		t.Errorf("Count(zone, z6): %d", n)
	}
	if n := b.x.Live().Count(); n != api.MaxUniverse {
		t.Errorf("Live: %d", n)
	}
	for slot := range api.MaxUniverse {
		if slot%2 == 0 {
			b.drop(slot)
		}
	}
	is(t, "Live", b.x.Live(), api.MaxUniverse, odd)
	is(t, "Has(zone)", b.x.Has("zone"), api.MaxUniverse, odd)
	texts(t, "Values(half)", b.x.Values("half"), "1")
	texts(t, "Values(zone)", b.x.Values("zone"), "z0", "z1", "z2", "z3", "z4", "z5", "z6")
}

// R9: asking changes nothing: an answer is the same as often as it is asked for.
func TestAskingChangesNothing(t *testing.T) {
	b := example(t)
	for range 3 {
		for _, text := range oddTexts {
			b.x.With(text, text)
			b.x.In(text, oddTexts)
			b.x.Has(text)
			b.x.Values(text)
			b.x.Count(text, text)
		}
		for _, slot := range oddInts {
			b.x.Of(slot)
		}
		posting.Same(b.x, nil)
		b.check("asked")
	}
}
