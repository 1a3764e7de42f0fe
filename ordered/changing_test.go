package ordered_test

import (
	"math"
	"slices"
	"strconv"
	"strings"
	"testing"

	"berth/api"
	"berth/ordered"
)

// example is the index of the chapter's examples, ahead of what is refused.
func example(t *testing.T) both {
	t.Helper()
	b := made(t, 8)
	answers(t, "Put(cores, 3, 16)", b.put("cores", 3, 16), api.OK)
	answers(t, "Put(cores, 5, 4)", b.put("cores", 5, 4), api.OK)
	answers(t, "Put(cores, 0, 16)", b.put("cores", 0, 16), api.OK)
	answers(t, "Put(rank, 3, -2)", b.put("rank", 3, -2), api.OK)
	return b
}

// number holds what Get answers to a number and whether there is one.
func number(t *testing.T, x *ordered.Index, key string, slot, want int, there bool) {
	t.Helper()
	if n, ok := x.Get(key, slot); n != want || ok != there {
		t.Errorf("Get(%q, %d): %d, %v, want %d, %v", key, slot, n, ok, want, there)
	}
}

// P8.1 to P8.3: the chapter's examples, one behind the other.
func TestExamples(t *testing.T) {
	b := example(t)
	answers(t, "Put(cores, 3, 8)", b.put("cores", 3, 8), api.ErrRankThere)
	answers(t, "Put of no key", b.put("", 9, 8), api.ErrRankKey)
	answers(t, "Put(cores, 8, 8)", b.put("cores", 8, 8), api.ErrRankSlot)
	is(t, "Find(cores, >=, 5)", b.x.Find("cores", api.CmpGe, 5), 8, []int{0, 3})
	is(t, "Find(cores, !=, 16)", b.x.Find("cores", api.CmpNe, 16), 8, []int{5})
	is(t, "Find(cores, !=, 7)", b.x.Find("cores", api.CmpNe, 7), 8, []int{0, 3, 5})
	is(t, "Find(rank, <, 0)", b.x.Find("rank", api.CmpLt, 0), 8, []int{3})
	is(t, "Find(disk, !=, 0)", b.x.Find("disk", api.CmpNe, 0), 8, nil)
	is(t, "Find(cores, 0, 16)", b.x.Find("cores", 0, 16), 8, nil)
	is(t, "Between(cores, 4, 15)", b.x.Between("cores", 4, 15), 8, []int{5})
	is(t, "Between(cores, 16, 4)", b.x.Between("cores", 16, 4), 8, nil)
	is(t, "Among(cores, [4 4 9])", b.x.Among("cores", []int{4, 4, 9}), 8, []int{5})
	is(t, "Has(cores)", b.x.Has("cores"), 8, []int{0, 3, 5})
	texts(t, "Keys", b.x.Keys(), "cores", "rank")
	if got := walked(t, b.x.Rows("cores"), 8); !sameRows(got, []row{{4, []int{5}}, {16, []int{0, 3}}}) {
		t.Errorf("Rows(cores): %v", got)
	}
	number(t, b.x, "rank", 3, -2, true)
	answers(t, "Del(rank, 3)", b.del("rank", 3), api.OK)
	answers(t, "Del(rank, 3) again", b.del("rank", 3), api.ErrRankGone)
	texts(t, "Keys", b.x.Keys(), "cores")
	b.check("the examples")
	if x, err := ordered.New(-1); x != nil || err != api.ErrRankMost {
		t.Errorf("New(-1): %v, %d", x, err)
	}
	same(t, "nil and of size 5", nil, made(t, 5).x, true)
}

// P8.1: the least and the greatest size, one below and one above, and sizes far outside.
func TestSizes(t *testing.T) {
	for _, size := range []int{math.MinInt, -65536, -2, -1, api.MaxUniverse + 1, 1 << 32, 1 << 62, math.MaxInt} {
		if x, err := ordered.New(size); x != nil || err != api.ErrRankMost {
			t.Errorf("New(%d): %v, %d", size, x, err)
		}
	}
	for _, size := range []int{0, 1, 2, 63, 64, 65, api.MaxNodes, api.MaxPods, api.MaxUniverse - 1, api.MaxUniverse} {
		b := made(t, size)
		b.check("new, of " + strconv.Itoa(size))
		for _, slot := range []int{0, size - 1} {
			b.put("cores", slot, slot)
		}
		b.check("both ends of " + strconv.Itoa(size))
	}
}

// P8.1: which slots an index of a size has: the first and the last, not -1 and the size itself.
func TestSlotRange(t *testing.T) {
	for _, size := range []int{0, 1, 6, 64, 65, 100, api.MaxUniverse} {
		b := made(t, size)
		for _, slot := range slices.Concat(oddInts, []int{-1, size, size + 1, size + 63, size + 64}) {
			if slot >= 0 && slot < size {
				continue
			}
			answers(t, "Put", b.put("cores", slot, 4), api.ErrRankSlot)
			answers(t, "Del", b.del("cores", slot), api.ErrRankSlot)
			number(t, b.x, "cores", slot, 0, false)
		}
		b.check("nothing put, size " + strconv.Itoa(size))
		if size == 0 {
			continue
		}
		for _, slot := range []int{0, size - 1} {
			answers(t, "Del", b.del("cores", slot), api.ErrRankGone)
			answers(t, "Put", b.put("cores", slot, 4), api.OK)
			answers(t, "Put twice", b.put("cores", slot, 4), api.ErrRankThere)
			b.check("put at an end of " + strconv.Itoa(size))
			answers(t, "Del", b.del("cores", slot), api.OK)
		}
		b.check("all deleted, size " + strconv.Itoa(size))
	}
}

// P8.1, R2, R4: which error comes first: the key, then the slot's range, then whether it has a number. A refused call changes nothing.
func TestOrderOfErrors(t *testing.T) {
	b := made(t, 4)
	b.put("cores", 1, 16)
	b.put("cores", 3, 16)
	b.put("rank", 1, 2)
	for _, n := range oddInts {
		for _, slot := range []int{-1, 4, 0, 1, math.MinInt, math.MaxInt} {
			answers(t, "Put of no key", b.put("", slot, n), api.ErrRankKey)
			answers(t, "Del of no key", b.del("", slot), api.ErrRankKey)
		}
		for _, slot := range []int{-1, 4, 5, 64, math.MinInt, math.MaxInt} {
			for _, key := range []string{"cores", "none"} {
				answers(t, "Put outside", b.put(key, slot, n), api.ErrRankSlot)
				answers(t, "Del outside", b.del(key, slot), api.ErrRankSlot)
			}
		}
		answers(t, "Put of what is there", b.put("cores", 1, n), api.ErrRankThere)
		answers(t, "Del of a free slot", b.del("cores", 0), api.ErrRankGone)
		answers(t, "Del of a slot under another key", b.del("rank", 3), api.ErrRankGone)
		answers(t, "Del of no such key", b.del("none", 1), api.ErrRankGone)
		b.check("all refused")
	}
	answers(t, "Put of the same number", b.put("cores", 1, 16), api.ErrRankThere)
	number(t, b.x, "cores", 1, 16, true)
}

// P8.1, R7: a nil index is not to be changed: ErrNil ahead of all else.
func TestNilRefuses(t *testing.T) {
	var x *ordered.Index
	for _, key := range []string{"", "cores"} {
		for _, slot := range oddInts {
			answers(t, "Put", x.Put(key, slot, slot), api.ErrNil)
			answers(t, "Del", x.Del(key, slot), api.ErrNil)
		}
	}
	check(t, "nil", x, newModel(0))
}

// P8.1: any text that isn't empty is a key, however long it is and whatever its bytes are; texts that are nearly alike are keys of their own.
func TestAnyKey(t *testing.T) {
	b := made(t, 70)
	keys := slices.Concat(oddKeys[1:], []string{"cores", strings.Repeat("k", 5001), "a/b/c", "-", "0"})
	for i, key := range keys {
		answers(t, "Put", b.put(key, 69, i), api.OK)
		answers(t, "Put", b.put(key, i, 69), api.OK)
	}
	for i, key := range keys {
		number(t, b.x, key, 69, i, true)
		number(t, b.x, key, i, 69, true)
		number(t, b.x, key, i+1, 0, false)
	}
	b.check("odd keys")
	for _, key := range keys {
		answers(t, "Del", b.del(key, 69), api.OK)
	}
	b.check("half of them deleted")
}

// P8.1: any int is a number, also 0 and the ends: Get tells it, and that it is there.
func TestAnyNumber(t *testing.T) {
	b := made(t, 100)
	for slot, n := range oddInts {
		answers(t, "Put", b.put("n", slot, n), api.OK)
		answers(t, "Put", b.put("m", 99-slot, n), api.OK)
	}
	for slot, n := range oddInts {
		number(t, b.x, "n", slot, n, true)
		number(t, b.x, "m", 99-slot, n, true)
		number(t, b.x, "m", slot, 0, false)
	}
	b.check("odd numbers")
	for slot := range oddInts {
		answers(t, "Del", b.del("n", slot), api.OK)
		number(t, b.x, "n", slot, 0, false)
		b.check("without " + strconv.Itoa(slot))
	}
}

// P8.1: a slot has a number under one key and none under another, and unlike ones under two.
func TestKeysAreApart(t *testing.T) {
	b := made(t, 10)
	b.put("cores", 3, 16)
	b.put("rank", 3, 16)
	b.put("rank", 4, 2)
	b.put("mem", 3, -16)
	number(t, b.x, "cores", 3, 16, true)
	number(t, b.x, "cores", 4, 0, false)
	number(t, b.x, "mem", 3, -16, true)
	b.check("three keys")
	answers(t, "Del(rank, 3)", b.del("rank", 3), api.OK)
	number(t, b.x, "cores", 3, 16, true)
	number(t, b.x, "rank", 3, 0, false)
	b.check("one deleted")
}

// P8.1, P8.3: with the last entry under it a key is told no more, with the last slot that has it a number.
func TestLastEntryGoes(t *testing.T) {
	b := made(t, 130)
	b.put("cores", 0, 16)
	b.put("cores", 64, 16)
	b.put("cores", 129, 4)
	b.put("rank", 65, 0)
	for i, want := range [][]string{{"cores", "rank"}, {"cores", "rank"}, {"rank"}, nil} {
		e := []entry{{"cores", 129}, {"cores", 0}, {"cores", 64}, {"rank", 65}}[i]
		answers(t, "Del", b.del(e.key, e.slot), api.OK)
		texts(t, "Keys", b.x.Keys(), want...)
		b.check("without " + e.key + " of " + strconv.Itoa(e.slot))
	}
	same(t, "emptied", b.x, nil, true)
}

// P8.1: a slot whose number was deleted may have another one: nothing of the former one is left.
func TestPutBehindDel(t *testing.T) {
	b := made(t, 70)
	for _, n := range []int{16, 4, 16, math.MinInt, math.MaxInt, 0} {
		for i, slot := range []int{0, 69, 7} {
			answers(t, "Put", b.put("cores", slot, n-i), api.OK)
			answers(t, "Put twice", b.put("cores", slot, 1), api.ErrRankThere)
			number(t, b.x, "cores", slot, n-i, true)
			b.check("put " + strconv.Itoa(n))
		}
		for _, slot := range []int{69, 0, 7} {
			answers(t, "Del", b.del("cores", slot), api.OK)
			answers(t, "Del twice", b.del("cores", slot), api.ErrRankGone)
			number(t, b.x, "cores", slot, 0, false)
			b.check("deleted " + strconv.Itoa(n))
		}
	}
}
