package ordered

import (
	"iter"
	"maps"
	"math"
	"slices"
	"sort"

	"berth/api"
	"berth/bitset"
)

// Get: a slot's number under a key.
func (x *Index) Get(key string, slot int) (int, bool) {
	n, there := x.under()[key].numbers[slot]
	return n, there
}

// Find: the slots whose number under the key stands so to n.
func (x *Index) Find(key string, cmp api.Cmp, n int) *bitset.Set {
	order := x.under()[key].order
	from, to := first(order, n), past(order, n)
	switch cmp {
	case api.CmpEq:
		return x.slots(order[from:to])
	case api.CmpNe:
		return x.slots(order[:from], order[to:])
	case api.CmpLt:
		return x.slots(order[:from])
	case api.CmpLe:
		return x.slots(order[:to])
	case api.CmpGt:
		return x.slots(order[to:])
	case api.CmpGe:
		return x.slots(order[from:])
	}
	return x.slots()
}

// Between: the slots whose number is from lo to hi.
func (x *Index) Between(key string, lo, hi int) *bitset.Set {
	out := x.slots()
	for _, row := range rows(x.under()[key].order, lo, hi) {
		add(out, row)
	}
	return out
}

// Among: the slots whose number is one of these.
func (x *Index) Among(key string, ns []int) *bitset.Set {
	out, order := x.slots(), x.under()[key].order
	rising := slices.Sorted(slices.Values(ns))
	for _, n := range slices.Compact(rising) { // a number that is named often is looked for once
		for _, row := range rows(order, n, n) {
			add(out, row)
		}
	}
	return out
}

// Has: the slots that have a number under the key.
func (x *Index) Has(key string) *bitset.Set { return x.slots(x.under()[key].order) }

// Keys: the keys under which some slot has a number, rising.
func (x *Index) Keys() []string { return slices.Sorted(maps.Keys(x.under())) }

// Rows: the numbers under a key with their slots, rising.
func (x *Index) Rows(key string) iter.Seq2[int, *bitset.Set] {
	then := slices.Clone(x.under()[key].order) // the index may be changed ahead of a walk or in its midst
	return func(yield func(int, *bitset.Set) bool) {
		for n, row := range rows(then, math.MinInt, math.MaxInt) {
			if !yield(n, x.slots(row)) {
				return
			}
		}
	}
}

// Same: do both hold the same numbers?
func Same(a, b *Index) bool {
	return maps.EqualFunc(a.under(), b.under(), func(c, d column) bool {
		return slices.Equal(c.order, d.order)
	})
}

// rows gives the numbers from lo to hi with the entries that have them, rising. The entries are a piece of the order: they are not to be handed out.
func rows(order []entry, lo, hi int) iter.Seq2[int, []entry] {
	return func(yield func(int, []entry) bool) {
		rest := order[first(order, lo):]
		for len(rest) > 0 && rest[0].n <= hi {
			n := rest[0].n
			end := past(rest, n)
			if !yield(n, rest[:end]) {
				return
			}
			rest = rest[end:]
		}
	}
}

// first is the place of the first entry with n or more.
func first(order []entry, n int) int {
	return sort.Search(len(order), func(i int) bool { return order[i].n >= n })
}

// past is the place of the first entry with more than n. It does not look for n + 1, which the greatest int has not.
func past(order []entry, n int) int {
	return sort.Search(len(order), func(i int) bool { return order[i].n > n })
}

// under is the columns by their keys, also of a nil index. A key that it lacks gives a column without entries.
func (x *Index) under() map[string]column {
	if x == nil {
		return nil
	}
	return x.columns
}

// slots is the set of the slots in these pieces, of the index's size.
func (x *Index) slots(pieces ...[]entry) *bitset.Set {
	size := 0
	if x != nil {
		size = x.size
	}
	out, _ := bitset.New(size) // no index has a size that is refused
	for _, piece := range pieces {
		add(out, piece)
	}
	return out
}

func add(set *bitset.Set, entries []entry) {
	for _, e := range entries {
		set.Add(e.slot)
	}
}
