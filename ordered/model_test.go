package ordered_test

import (
	"maps"
	"math"
	"slices"
	"strconv"
	"strings"
	"testing"

	"berth/api"
	"berth/bitset"
	"berth/ordered"
)

// entry is what an index has entries of, without the number.
type entry struct {
	key  string
	slot int
}

// model is an index by its meaning alone: the entries, gone through anew for each answer.
type model struct {
	size int
	has  map[entry]int
}

func newModel(size int) *model { return &model{size, map[entry]int{}} }

func (m *model) put(key string, slot, n int) api.Errno {
	_, there := m.has[entry{key, slot}]
	switch {
	case key == "":
		return api.ErrRankKey
	case slot < 0 || slot >= m.size:
		return api.ErrRankSlot
	case there:
		return api.ErrRankThere
	}
	m.has[entry{key, slot}] = n
	return api.OK
}

func (m *model) del(key string, slot int) api.Errno {
	_, there := m.has[entry{key, slot}]
	switch {
	case key == "":
		return api.ErrRankKey
	case slot < 0 || slot >= m.size:
		return api.ErrRankSlot
	case !there:
		return api.ErrRankGone
	}
	delete(m.has, entry{key, slot})
	return api.OK
}

// where is the slots with a number under the key for which fits answers true.
func (m *model) where(key string, fits func(n int) bool) []int {
	var slots []int
	for e, n := range m.has {
		if e.key == key && fits(n) {
			slots = append(slots, e.slot)
		}
	}
	slices.Sort(slots)
	return slots
}

func (m *model) find(key string, cmp api.Cmp, n int) []int {
	return m.where(key, func(is int) bool {
		switch cmp {
		case api.CmpEq:
			return is == n
		case api.CmpNe:
			return is != n
		case api.CmpLt:
			return is < n
		case api.CmpLe:
			return is <= n
		case api.CmpGt:
			return is > n
		case api.CmpGe:
			return is >= n
		}
		return false
	})
}

func (m *model) between(key string, lo, hi int) []int {
	return m.where(key, func(n int) bool { return lo <= n && n <= hi })
}

func (m *model) among(key string, ns []int) []int {
	return m.where(key, func(n int) bool { return slices.Contains(ns, n) })
}

func (m *model) hasKey(key string) []int {
	return m.where(key, func(int) bool { return true })
}

func (m *model) keys() []string {
	var all []string
	for e := range m.has {
		all = append(all, e.key)
	}
	slices.Sort(all)
	return slices.Compact(all)
}

// numbers is the numbers that some slot has under the key, rising.
func (m *model) numbers(key string) []int {
	var all []int
	for e, n := range m.has {
		if e.key == key {
			all = append(all, n)
		}
	}
	slices.Sort(all)
	return slices.Compact(all)
}

// row is one step of a walk over Rows.
type row struct {
	n     int
	slots []int
}

func (m *model) rows(key string) []row {
	var all []row
	for _, n := range m.numbers(key) {
		all = append(all, row{n, m.find(key, api.CmpEq, n)})
	}
	return all
}

func sameRows(a, b []row) bool {
	return slices.EqualFunc(a, b, func(r, s row) bool { return r.n == s.n && slices.Equal(r.slots, s.slots) })
}

// oddInts are numbers that are no slot of any index, or are at the edge of one, or at the ends of int.
var oddInts = []int{math.MinInt, math.MinInt + 1, -1 << 32, -65, -64, -1, 0, 65535, 65536, 65537, 1 << 32, 1 << 62, math.MaxInt - 1, math.MaxInt}

// oddKeys are keys under which no test has a number: a key need not be a label's.
var oddKeys = []string{"", " ", "=", "/", "\x00", "\xff\xfe", "é", "cores\x00", "cores ", "CORES", "core", strings.Repeat("k", 5000)}

// cmps are the six, and around them what is none of them.
var cmps = []api.Cmp{math.MinInt, -1, 0, api.CmpEq, api.CmpNe, api.CmpLt, api.CmpLe, api.CmpGt, api.CmpGe, api.CmpGe + 1, 8, 256 + api.CmpEq, 1<<32 + api.CmpEq, math.MaxInt}

// is holds a set that was answered to its size and members.
func is(t *testing.T, what string, got *bitset.Set, size int, want []int) {
	t.Helper()
	if got == nil {
		t.Fatalf("%s: nil", what)
	}
	if got.Size() != size || !slices.Equal(got.Members(), want) {
		t.Fatalf("%s: %v of %d, want %v of %d", what, got.Members(), got.Size(), want, size)
	}
}

// check holds all that an index tells against the model.
func check(t *testing.T, when string, x *ordered.Index, m *model) {
	t.Helper()
	if got, want := x.Keys(), m.keys(); !slices.Equal(got, want) {
		t.Fatalf("%s: Keys %q, want %q", when, got, want)
	}
	for _, key := range slices.Concat(m.keys(), []string{"", "none", "core"}) {
		checkSlots(t, when, x, m, key)
		checkKey(t, when, x, m, key)
	}
}

func checkSlots(t *testing.T, when string, x *ordered.Index, m *model, key string) {
	t.Helper()
	asked := slices.Concat(oddInts, m.hasKey(key))
	for slot := range min(m.size, 10) + 10 {
		asked = append(asked, slot, m.size-slot)
	}
	for _, slot := range asked {
		want, there := m.has[entry{key, slot}]
		if got, ok := x.Get(key, slot); got != want || ok != there {
			t.Fatalf("%s: Get(%q, %d) = %d, %v, want %d, %v", when, key, slot, got, ok, want, there)
		}
	}
}

// around is numbers of which something may be asked: those that are there, their neighbours, the ends of int.
func around(numbers []int) []int {
	asked := []int{math.MinInt, math.MinInt + 1, -1, 0, 1, math.MaxInt - 1, math.MaxInt}
	step := len(numbers)/10 + 1
	for i := 0; i < len(numbers); i += step {
		n := numbers[i]
		asked = append(asked, n, n-1, n+1) // beyond the ends of int it is the other end
	}
	slices.Sort(asked)
	return slices.Compact(asked)
}

func checkKey(t *testing.T, when string, x *ordered.Index, m *model, key string) {
	t.Helper()
	is(t, when+": Has "+key, x.Has(key), m.size, m.hasKey(key))
	if got, want := walked(t, x.Rows(key), m.size), m.rows(key); !sameRows(got, want) {
		t.Fatalf("%s: Rows(%q) gives %v, want %v", when, key, got, want)
	}
	numbers := m.numbers(key)
	asked := around(numbers)
	for i, n := range asked {
		for _, cmp := range cmps {
			is(t, when+": Find "+key+" "+strconv.Itoa(int(cmp))+" "+strconv.Itoa(n), x.Find(key, cmp, n), m.size, m.find(key, cmp, n))
		}
		for _, j := range []int{0, i - 2, i - 1, i, i + 1, i + 2, len(asked) - 1} {
			hi := asked[max(0, min(j, len(asked)-1))]
			is(t, when+": Between "+key+" "+strconv.Itoa(n)+" "+strconv.Itoa(hi), x.Between(key, n, hi), m.size, m.between(key, n, hi))
		}
	}
	for _, ns := range [][]int{nil, {}, numbers, asked, slices.Concat(asked, numbers, asked), falling(numbers), every(numbers, 2), every(falling(asked), 3), {math.MinInt}, {math.MaxInt, math.MinInt}} {
		is(t, when+": Among "+key, x.Among(key, ns), m.size, m.among(key, ns))
	}
}

// falling is a list from its end on.
func falling(list []int) []int {
	turned := slices.Clone(list)
	slices.Reverse(turned)
	return turned
}

// every is each nth of a list.
func every(list []int, n int) []int {
	var some []int
	for i := 0; i < len(list); i += n {
		some = append(some, list[i])
	}
	return some
}

// entries is the model's entries in an order of their own.
func (m *model) entries() []entry {
	return slices.SortedFunc(maps.Keys(m.has), func(a, b entry) int {
		if a.key != b.key {
			return strings.Compare(a.key, b.key)
		}
		return a.slot - b.slot
	})
}
