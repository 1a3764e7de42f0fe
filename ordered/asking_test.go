package ordered_test

import (
	"math"
	"slices"
	"strconv"
	"strings"
	"testing"

	"berth/api"
	"berth/ordered"
)

// P8.1 to P8.3, R7: a nil index is read as one without entries; its sets and its walks are there all the same.
func TestNilIsEmpty(t *testing.T) {
	var x *ordered.Index
	is(t, "Find", x.Find("cores", api.CmpNe, 0), 0, nil)
	is(t, "Between", x.Between("cores", math.MinInt, math.MaxInt), 0, nil)
	is(t, "Among", x.Among("cores", []int{0, 4, 0}), 0, nil)
	is(t, "Has", x.Has("cores"), 0, nil)
	number(t, x, "cores", 0, 0, false)
	texts(t, "Keys", x.Keys())
	check(t, "nil", x, newModel(0))
	made(t, 0).check("of size 0")
}

// ends is an index with the ends of int, their neighbours and a few numbers around 0, each under two slots.
func ends(t *testing.T) both {
	t.Helper()
	b := made(t, 200)
	for i, n := range []int{math.MaxInt, 0, math.MinInt, 1, math.MaxInt - 1, -1, math.MinInt + 1} {
		b.put("n", i, n)
		b.put("n", 199-i, n)
		b.put("other", 100+i, n)
	}
	return b
}

// P8.2: every comparison with every number at the ends of int, where a number more or less would go round.
func TestFindAtTheEnds(t *testing.T) {
	b := ends(t)
	all := b.x.Has("n").Members()
	is(t, "< the least", b.x.Find("n", api.CmpLt, math.MinInt), 200, nil)
	is(t, "<= the least", b.x.Find("n", api.CmpLe, math.MinInt), 200, []int{2, 197})
	is(t, "== the least", b.x.Find("n", api.CmpEq, math.MinInt), 200, []int{2, 197})
	is(t, ">= the least", b.x.Find("n", api.CmpGe, math.MinInt), 200, all)
	is(t, "> the greatest", b.x.Find("n", api.CmpGt, math.MaxInt), 200, nil)
	is(t, ">= the greatest", b.x.Find("n", api.CmpGe, math.MaxInt), 200, []int{0, 199})
	is(t, "== the greatest", b.x.Find("n", api.CmpEq, math.MaxInt), 200, []int{0, 199})
	is(t, "<= the greatest", b.x.Find("n", api.CmpLe, math.MaxInt), 200, all)
	is(t, "!= the greatest", b.x.Find("n", api.CmpNe, math.MaxInt), 200, all[1:len(all)-1])
	for _, key := range []string{"n", "other", "none", ""} {
		for _, n := range around(b.m.numbers("n")) {
			for _, cmp := range cmps {
				is(t, "Find "+key+" "+strconv.Itoa(int(cmp))+" "+strconv.Itoa(n), b.x.Find(key, cmp, n), 200, b.m.find(key, cmp, n))
			}
		}
	}
}

// P8.2, R12: != gives only slots that have a number; what is none of the six gives none.
func TestFindGivesWhatHasNumbers(t *testing.T) {
	b := made(t, 6)
	b.put("cores", 1, 4)
	b.put("cores", 4, 8)
	b.put("rank", 2, 4)
	is(t, "!= 4", b.x.Find("cores", api.CmpNe, 4), 6, []int{4})
	is(t, "!= 5", b.x.Find("cores", api.CmpNe, 5), 6, []int{1, 4})
	is(t, "rank != 4", b.x.Find("rank", api.CmpNe, 4), 6, nil)
	for _, cmp := range []api.Cmp{math.MinInt, -6, -1, 0, 7, 8, 257, 1<<32 + 1, math.MaxInt} {
		for _, n := range []int{math.MinInt, 4, 5, 8, math.MaxInt} {
			is(t, "Find with cmp "+strconv.Itoa(int(cmp)), b.x.Find("cores", cmp, n), 6, nil)
		}
	}
}

// P8.2: Between with every pair of numbers at the ends of int and around 0: lo above hi, and lo equal to hi, too.
func TestBetween(t *testing.T) {
	b := ends(t)
	asked := around(b.m.numbers("n"))
	for _, lo := range asked {
		for _, hi := range asked {
			for _, key := range []string{"n", "other", "none", ""} {
				is(t, "Between "+key+" "+strconv.Itoa(lo)+" "+strconv.Itoa(hi), b.x.Between(key, lo, hi), 200, b.m.between(key, lo, hi))
			}
		}
	}
	is(t, "all", b.x.Between("n", math.MinInt, math.MaxInt), 200, b.x.Has("n").Members())
	is(t, "the other way about", b.x.Between("n", math.MaxInt, math.MinInt), 200, nil)
	is(t, "the greatest alone", b.x.Between("n", math.MaxInt, math.MaxInt), 200, []int{0, 199})
	is(t, "the least alone", b.x.Between("n", math.MinInt, math.MinInt), 200, []int{2, 197})
	is(t, "one above", b.x.Between("n", 1, 0), 200, nil)
}

// P8.2: Among takes numbers in any order, the same one as often as you like, and ones that no slot has; of an empty list it gives the empty set.
func TestAmong(t *testing.T) {
	b := made(t, 100)
	for slot := range 100 {
		b.put("tens", slot, slot%10)
		b.put("sevens", slot, slot%7)
	}
	for _, list := range [][]int{nil, {}, {10}, {-1, 10, math.MinInt, math.MaxInt, -1}} {
		is(t, "Among", b.x.Among("tens", list), 100, nil)
	}
	var want []int
	for slot := range 100 {
		if slot%10 == 3 || slot%10 == 9 {
			want = append(want, slot)
		}
	}
	for _, list := range [][]int{{3, 9}, {9, 3}, {9, 9, 3, 9, 3}, {math.MaxInt, 9, -3, 3, 10, math.MinInt}} {
		is(t, "Among", b.x.Among("tens", list), 100, want)
		is(t, "Among of no key", b.x.Among("none", list), 100, nil)
	}
	is(t, "Among of very many", b.x.Among("tens", slices.Repeat([]int{9, 10, 3}, 10000)), 100, want)
	b.check("tens and sevens")
	e := ends(t)
	is(t, "Among the ends", e.x.Among("n", []int{math.MaxInt, math.MinInt}), 200, []int{0, 2, 197, 199})
	is(t, "Among the ends of another key", e.x.Among("other", []int{math.MaxInt, math.MinInt}), 200, []int{100, 102})
}

// P8.3: keys rise byte by byte, each once, however many slots have them and in whatever order they came.
func TestKeysRise(t *testing.T) {
	b := made(t, 20)
	keys := []string{"b", "a", "B", "a/b", "10", "9", "\xff", "a.b", "a-b", "é", "a_b", "ab", " ", "a\x00", strings.Repeat("k", 300), "k"}
	for slot, key := range keys {
		b.put(key, slot, -slot)
		b.put(key, 19-slot, 5)
	}
	texts(t, "Keys", b.x.Keys(), " ", "10", "9", "B", "a", "a\x00", "a-b", "a.b", "a/b", "a_b", "ab", "b", "k", strings.Repeat("k", 300), "é", "\xff")
	b.check("texts")
}

// P8.2, P8.3: numbers that several slots share, at the edges of words of 64 bits too, put in an order that neither rises nor falls.
func TestShared(t *testing.T) {
	b := made(t, 200)
	slots := []int{64, 0, 199, 1, 128, 62, 192, 63, 65, 191, 127}
	for i, slot := range slots {
		b.put("part", slot, []int{5, -5, 0}[i%3])
		b.put("all", slot, 7)
	}
	is(t, "Has(all)", b.x.Has("all"), 200, []int{0, 1, 62, 63, 64, 65, 127, 128, 191, 192, 199})
	is(t, "Find(part, ==, 5)", b.x.Find("part", api.CmpEq, 5), 200, []int{1, 64, 191, 192})
	if got := walked(t, b.x.Rows("part"), 200); !sameRows(got, []row{{-5, []int{0, 63, 127, 128}}, {0, []int{62, 65, 199}}, {5, []int{1, 64, 191, 192}}}) {
		t.Errorf("Rows(part): %v", got)
	}
	b.check("shared")
	for _, slot := range slots {
		b.del("part", slot)
		b.check("without " + strconv.Itoa(slot))
	}
	texts(t, "Keys", b.x.Keys(), "all")
}

// P8.1 to P8.3: an index of the greatest size, every slot with a number of its own, put from the greatest to the least.
func TestGreatestFull(t *testing.T) {
	b := made(t, api.MaxUniverse)
	for slot := range api.MaxUniverse {
		b.put("own", slot, -slot)
	}
	answers(t, "Put beyond", b.put("own", api.MaxUniverse, 0), api.ErrRankSlot)
	is(t, "Between", b.x.Between("own", -40000, -39998), api.MaxUniverse, []int{39998, 39999, 40000})
	is(t, "Find", b.x.Find("own", api.CmpGt, -3), api.MaxUniverse, []int{0, 1, 2})
	is(t, "Among", b.x.Among("own", []int{0, 1 - api.MaxUniverse, 1}), api.MaxUniverse, []int{0, api.MaxUniverse - 1})
	if n := b.x.Find("own", api.CmpNe, -7).Count(); n != api.MaxUniverse-1 {
		t.Errorf("Find !=: %d", n)
	}
	last := math.MinInt
	for n, set := range b.x.Rows("own") {
		if n <= last || set.Next(0) != -n || set.Count() != 1 {
			t.Fatalf("Rows gives %d with %v behind %d", n, set.Members(), last)
		}
		last = n
	}
	if last != 0 {
		t.Errorf("Rows ends at %d", last)
	}
	for slot := range api.MaxUniverse {
		if slot%2 == 0 {
			b.del("own", slot)
		}
	}
	is(t, "Between", b.x.Between("own", -40000, -39998), api.MaxUniverse, []int{39999})
	if n := b.x.Has("own").Count(); n != api.MaxUniverse/2 {
		t.Errorf("Has: %d", n)
	}
}

// P1, P8.2: every slot of the greatest size with one number, asked for as often as a list may name it: it ends soon.
func TestOneNumberOften(t *testing.T) {
	b := made(t, api.MaxUniverse)
	for slot := range api.MaxUniverse {
		b.put("one", slot, 7)
	}
	if n := b.x.Among("one", slices.Repeat([]int{7}, 1<<20)).Count(); n != api.MaxUniverse {
		t.Errorf("Among: %d", n)
	}
	if got := walked(t, b.x.Rows("one"), api.MaxUniverse); len(got) != 1 || got[0].n != 7 || len(got[0].slots) != api.MaxUniverse {
		t.Errorf("Rows gives %d rows", len(got))
	}
}

// R9: asking changes nothing: an answer is the same as often as it is asked for.
func TestAskingChangesNothing(t *testing.T) {
	b := example(t)
	for range 3 {
		for _, key := range slices.Concat(oddKeys, []string{"cores"}) {
			b.x.Find(key, api.CmpGe, 5)
			b.x.Between(key, 0, 20)
			b.x.Among(key, oddInts)
			b.x.Has(key)
			for range b.x.Rows(key) {
				break
			}
			for _, slot := range oddInts {
				b.x.Get(key, slot)
			}
		}
		ordered.Same(b.x, nil)
		b.check("asked")
	}
}
