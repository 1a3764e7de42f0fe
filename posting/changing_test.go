package posting_test

import (
	"math"
	"slices"
	"strconv"
	"strings"
	"testing"

	"berth/api"
	"berth/posting"
)

// texts holds a list of texts to what it must be.
func texts(t *testing.T, what string, got []string, want ...string) {
	t.Helper()
	if !slices.Equal(got, want) {
		t.Errorf("%s: %q, want %q", what, got, want)
	}
}

// example is the index of the chapter's first example.
func example(t *testing.T) both {
	t.Helper()
	b := made(t, 6)
	answers(t, "Put(0)", b.put(0, tags("zone", "a")...), api.OK)
	answers(t, "Put(5)", b.put(5, tags("disk", "ssd", "zone", "a")...), api.OK)
	answers(t, "Put(2)", b.put(2, tags("zone", "b")...), api.OK)
	return b
}

// second is what the second example makes of it.
func second(t *testing.T) both {
	t.Helper()
	b := example(t)
	answers(t, "Put(5)", b.put(5), api.ErrSlotTaken)
	answers(t, "Put(6)", b.put(6), api.ErrSlotRange)
	answers(t, "Set(1)", b.set(1), api.ErrNoSlot)
	b.check("refused")
	answers(t, "Set(5)", b.set(5, tags("zone", "b")...), api.OK)
	return b
}

// P7.1, P7.3, P7.4: the chapter's first example.
func TestExampleAsking(t *testing.T) {
	b := example(t)
	is(t, "With(zone, a)", b.x.With("zone", "a"), 6, []int{0, 5})
	is(t, "Has(zone)", b.x.Has("zone"), 6, []int{0, 2, 5})
	is(t, "In(zone, [b c b])", b.x.In("zone", []string{"b", "c", "b"}), 6, []int{2})
	texts(t, "Keys", b.x.Keys(), "disk", "zone")
	texts(t, "Values(zone)", b.x.Values("zone"), "a", "b")
	if n := b.x.Count("zone", "a"); n != 2 {
		t.Errorf("Count(zone, a): %d", n)
	}
	b.check("the first example")
}

// P7.1, P7.3, P7.4: the second.
func TestExampleSet(t *testing.T) {
	b := second(t)
	is(t, "With(zone, a)", b.x.With("zone", "a"), 6, []int{0})
	texts(t, "Values(disk)", b.x.Values("disk"))
	texts(t, "Keys", b.x.Keys(), "zone")
	b.check("the second example")
}

// P7.1, P7.2: the third.
func TestExampleDrop(t *testing.T) {
	b := second(t)
	answers(t, "Drop(2)", b.drop(2), api.OK)
	answers(t, "Drop(2) again", b.drop(2), api.ErrNoSlot)
	is(t, "Live", b.x.Live(), 6, []int{0, 5})
	b.check("dropped")
	answers(t, "Put(2)", b.put(2), api.OK)
	is(t, "Live", b.x.Live(), 6, []int{0, 2, 5})
	if list, ok := b.x.Of(2); len(list) != 0 || !ok {
		t.Errorf("Of(2): %v, %v", list, ok)
	}
	answers(t, "Set(2) out of order", b.set(2, tags("zone", "b", "disk", "x")...), api.ErrLabelOrder)
	b.check("the third example")
}

// P7.1: the least and the greatest size, one below and one above, and sizes far outside.
func TestSizes(t *testing.T) {
	for _, size := range []int{math.MinInt, -65536, -2, -1, api.MaxUniverse + 1, 1 << 32, 1 << 62, math.MaxInt} {
		if x, err := posting.New(size); x != nil || err != api.ErrSize {
			t.Errorf("New(%d): %v, %d", size, x, err)
		}
	}
	for _, size := range []int{0, 1, 2, 63, 64, 65, api.MaxNodes, api.MaxPods, api.MaxUniverse - 1, api.MaxUniverse} {
		b := made(t, size)
		b.check("new, of " + strconv.Itoa(size))
		for _, slot := range []int{0, size - 1} {
			b.put(slot, tags("zone", "x")...)
		}
		b.check("both ends of " + strconv.Itoa(size))
	}
}

// P7.1: which slots an index of a size has: the first and the last, not -1 and the size itself.
func TestSlotRange(t *testing.T) {
	for _, size := range []int{0, 1, 6, 64, 65, 100, api.MaxUniverse} {
		b := made(t, size)
		for _, slot := range slices.Concat(oddInts, []int{-1, size, size + 1, size + 63, size + 64}) {
			if slot >= 0 && slot < size {
				continue
			}
			answers(t, "Put", b.put(slot, tags("a", "b")...), api.ErrSlotRange)
			answers(t, "Set", b.set(slot, tags("a", "b")...), api.ErrSlotRange)
			answers(t, "Drop", b.drop(slot), api.ErrSlotRange)
		}
		b.check("nothing put, size " + strconv.Itoa(size))
		if size == 0 {
			continue
		}
		for _, slot := range []int{0, size - 1} {
			answers(t, "Put", b.put(slot), api.OK)
			answers(t, "Set", b.set(slot, tags("a", "b")...), api.OK)
			b.check("set at an end of " + strconv.Itoa(size))
			answers(t, "Drop", b.drop(slot), api.OK)
		}
		b.check("all dropped, size " + strconv.Itoa(size))
	}
}

// wrongLists are lists that labels.Check refuses, and how.
var wrongLists = []struct {
	list []api.Label
	err  api.Errno
}{
	{tags("", "x"), api.ErrKey},
	{tags("a b", "x"), api.ErrKey},
	{tags("a/b/c", ""), api.ErrKey},
	{tags(strings.Repeat("k", 64), ""), api.ErrKey},
	{tags("zone", "_"), api.ErrValue},
	{tags("zone", "-"), api.ErrValue},
	{tags("zone", strings.Repeat("v", 64)), api.ErrValue},
	{tags("zone", "a", "zone", "a"), api.ErrKeyDup},
	{tags("zone", "a", "zone", "b"), api.ErrKeyDup},
	{tags("app", "", "disk", "", "zone", "", "zone", "x"), api.ErrKeyDup},
	{tags("zone", "b", "disk", "x"), api.ErrLabelOrder},
	{tags("a", "", "b", "", "Z", ""), api.ErrLabelOrder},
	{many(33, "x"), api.ErrLabels},
	{slices.Repeat(tags("-", "-"), 33), api.ErrLabels},
	{tags("-", "-", "zone", "_"), api.ErrKey},
	{tags("zone", "_", "-", "-"), api.ErrValue},
}

// P7.1, R4: each error of layer 3 for a list; a list of MaxLabels labels is none. A refused call changes nothing.
func TestWrongLists(t *testing.T) {
	b := made(t, 5)
	b.put(1, tags("app", "web", "zone", "a")...)
	b.put(2)
	for i, w := range wrongLists {
		answers(t, "Put of list "+strconv.Itoa(i), b.put(0, w.list...), w.err)
		answers(t, "Set to list "+strconv.Itoa(i), b.set(1, w.list...), w.err)
		answers(t, "Set to list "+strconv.Itoa(i), b.set(2, w.list...), w.err)
		b.check("behind wrong list " + strconv.Itoa(i))
	}
	answers(t, "Put of 32 labels", b.put(0, many(32, "x")...), api.OK)
	answers(t, "Set to 32 labels", b.set(1, many(32, "y")...), api.OK)
	b.check("32 labels")
	answers(t, "Put again", b.put(0, tags("zone", "a")...), api.ErrSlotTaken)
	answers(t, "Set", b.set(0, tags("k131", "")...), api.OK)
	answers(t, "Drop", b.drop(1), api.OK)
	b.check("31 keys gone")
}

// P7.1, R2: which error comes first: the slot's range, then whether it is live, then the list.
func TestOrderOfErrors(t *testing.T) {
	b := made(t, 4)
	b.put(1, tags("zone", "a")...)
	for _, w := range wrongLists {
		for _, slot := range []int{-1, 4, math.MinInt, math.MaxInt} {
			answers(t, "Put outside", b.put(slot, w.list...), api.ErrSlotRange)
			answers(t, "Set outside", b.set(slot, w.list...), api.ErrSlotRange)
		}
		answers(t, "Put of a live slot", b.put(1, w.list...), api.ErrSlotTaken)
		answers(t, "Set of a free slot", b.set(0, w.list...), api.ErrNoSlot)
		answers(t, "Set of a free slot", b.set(3, w.list...), api.ErrNoSlot)
	}
	answers(t, "Drop of a free slot", b.drop(0), api.ErrNoSlot)
	b.check("all refused")
}

// P7.1, R7: a nil index is not to be changed: ErrNil ahead of all else.
func TestNilRefuses(t *testing.T) {
	var x *posting.Index
	for _, slot := range append(slices.Clone(oddInts), 0) {
		answers(t, "Drop", x.Drop(slot), api.ErrNil)
		for _, list := range [][]api.Label{nil, tags("zone", "a"), wrongLists[0].list, wrongLists[12].list} {
			answers(t, "Put", x.Put(slot, list), api.ErrNil)
			answers(t, "Set", x.Set(slot, list), api.ErrNil)
		}
	}
	check(t, "nil", x, newModel(0))
}

// P7.1, P7.4: with the last slot that has it a value is told no more, and with the last value the key.
func TestLastSlotGoes(t *testing.T) {
	for _, set := range []bool{false, true} {
		b := made(t, 130)
		b.put(0, tags("app", "web", "zone", "x")...)
		b.put(64, tags("zone", "x")...)
		b.put(129, tags("zone", "y")...)
		b.put(65, tags("disk", "")...)
		for _, slot := range []int{129, 0, 64, 65} {
			if set {
				answers(t, "Set", b.set(slot), api.OK)
			} else {
				answers(t, "Drop", b.drop(slot), api.OK)
			}
			b.check("without the labels of " + strconv.Itoa(slot))
		}
		texts(t, "Keys", b.x.Keys())
		texts(t, "Values", b.x.Values("zone"))
	}
	b := made(t, 3)
	b.put(1, tags("zone", "x")...)
	b.set(1, tags("zone", "y")...)
	texts(t, "Values", b.x.Values("zone"), "y")
	b.set(1, tags("rack", "y")...)
	texts(t, "Values", b.x.Values("zone"))
	texts(t, "Keys", b.x.Keys(), "rack")
	b.check("other labels")
}

// P7.1: Set to the labels that are there already, to fewer, to more and to others.
func TestSetting(t *testing.T) {
	b := made(t, 6)
	b.put(3, tags("app", "web", "zone", "x")...)
	b.put(4, tags("zone", "x")...)
	for i, list := range [][]api.Label{
		tags("app", "web", "zone", "x"),
		tags("app", "web", "zone", "x"),
		tags("zone", "x"),
		tags("app", "", "disk", "hdd", "zone", "y"),
		tags("app", "x", "disk", "", "zone", ""),
		nil,
		{},
		tags("zone", "x"),
		tags("x", "zone"),
	} {
		answers(t, "Set", b.set(3, list...), api.OK)
		if got, ok := b.x.Of(3); !slices.Equal(got, list) || !ok {
			t.Errorf("Of(3) behind Set %d: %v, %v", i, got, ok)
		}
		b.check("Set " + strconv.Itoa(i))
	}
}

// P7.1: a slot that was dropped may be put again, with other labels: nothing of the former ones is left.
func TestPutBehindDrop(t *testing.T) {
	b := made(t, 70)
	for i, list := range [][]api.Label{tags("zone", "a"), tags("disk", "x", "zone", "b"), nil, tags("zone", "a"), tags("app", "")} {
		for _, slot := range []int{0, 69, 7} {
			answers(t, "Put", b.put(slot, list...), api.OK)
			answers(t, "Put twice", b.put(slot), api.ErrSlotTaken)
			b.check("put in round " + strconv.Itoa(i))
		}
		for _, slot := range []int{69, 0, 7} {
			answers(t, "Drop", b.drop(slot), api.OK)
			answers(t, "Drop twice", b.drop(slot), api.ErrNoSlot)
			answers(t, "Set behind Drop", b.set(slot, tags("zone", "c")...), api.ErrNoSlot)
			b.check("dropped in round " + strconv.Itoa(i))
		}
	}
}
