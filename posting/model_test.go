package posting_test

import (
	"maps"
	"math"
	"slices"
	"strings"
	"testing"

	"berth/api"
	"berth/bitset"
	"berth/labels"
	"berth/posting"
)

// model is an index by its meaning alone: the live slots with their labels, gone through anew for each answer.
type model struct {
	size int
	has  map[int][]api.Label
}

func newModel(size int) *model { return &model{size, map[int][]api.Label{}} }

func (m *model) put(slot int, list []api.Label) api.Errno {
	_, live := m.has[slot]
	switch {
	case slot < 0 || slot >= m.size:
		return api.ErrSlotRange
	case live:
		return api.ErrSlotTaken
	}
	return m.write(slot, list)
}

func (m *model) set(slot int, list []api.Label) api.Errno {
	_, live := m.has[slot]
	switch {
	case slot < 0 || slot >= m.size:
		return api.ErrSlotRange
	case !live:
		return api.ErrNoSlot
	}
	return m.write(slot, list)
}

func (m *model) write(slot int, list []api.Label) api.Errno {
	if _, err := labels.Check(list); err != api.OK {
		return err
	}
	m.has[slot] = slices.Clone(list)
	return api.OK
}

func (m *model) drop(slot int) api.Errno {
	_, live := m.has[slot]
	switch {
	case slot < 0 || slot >= m.size:
		return api.ErrSlotRange
	case !live:
		return api.ErrNoSlot
	}
	delete(m.has, slot)
	return api.OK
}

func (m *model) live() []int { return slices.Sorted(maps.Keys(m.has)) }

// where is the live slots that have a label for which fits answers true.
func (m *model) where(fits func(l api.Label) bool) []int {
	var slots []int
	for slot, list := range m.has {
		if slices.ContainsFunc(list, fits) {
			slots = append(slots, slot)
		}
	}
	slices.Sort(slots)
	return slots
}

func (m *model) with(key, value string) []int {
	return m.where(func(l api.Label) bool { return l.Key == key && l.Value == value })
}

func (m *model) in(key string, values []string) []int {
	return m.where(func(l api.Label) bool { return l.Key == key && slices.Contains(values, l.Value) })
}

func (m *model) hasKey(key string) []int {
	return m.where(func(l api.Label) bool { return l.Key == key })
}

// texts is what of tells of each label of each live slot, rising, each once; labels of which it tells false are passed over.
func (m *model) texts(of func(l api.Label) (string, bool)) []string {
	var all []string
	for _, list := range m.has {
		for _, l := range list {
			if s, ok := of(l); ok {
				all = append(all, s)
			}
		}
	}
	slices.Sort(all)
	return slices.Compact(all)
}

func (m *model) keys() []string {
	return m.texts(func(l api.Label) (string, bool) { return l.Key, true })
}

func (m *model) values(key string) []string {
	return m.texts(func(l api.Label) (string, bool) { return l.Value, l.Key == key })
}

// oddInts are numbers that are no slot of any index, or are at the edge of one.
var oddInts = []int{math.MinInt, math.MinInt + 1, -1 << 32, -65, -64, -1, 65535, 65536, 65537, 1 << 32, 1 << 62, math.MaxInt}

// oddTexts are texts that no label has, and some that a label might have.
var oddTexts = []string{"", " ", "=", "-", "/", "a/b/c", "\x00", "\xff\xfe", "é", "zone\x00", "zone ", "ZONE", "zon", strings.Repeat("k", 63), strings.Repeat("k", 64), strings.Repeat("k", 5000)}

// is holds a set that was answered to its size and members.
func is(t *testing.T, what string, got *bitset.Set, size int, want []int) {
	t.Helper()
	if got == nil {
		t.Fatalf("%s: nil", what)
	}
	if got.Size() != size || !slices.Equal(got.Members(), want) {
		t.Fatalf("%s: %v of %d, want %v of %d", what, got.Members(), got.Size(), want, size)
	}
}

// check holds all that an index tells against the model.
func check(t *testing.T, when string, x *posting.Index, m *model) {
	t.Helper()
	is(t, when+": Live", x.Live(), m.size, m.live())
	if got, want := x.Keys(), m.keys(); !slices.Equal(got, want) {
		t.Fatalf("%s: Keys %q, want %q", when, got, want)
	}
	checkSlots(t, when, x, m)
	for _, key := range slices.Concat(m.keys(), oddTexts, []string{"zone", "disk", "app"}) {
		checkKey(t, when, x, m, key)
	}
}

func checkSlots(t *testing.T, when string, x *posting.Index, m *model) {
	t.Helper()
	asked := slices.Concat(oddInts, m.live())
	for slot := range min(m.size, 70) + 70 {
		asked = append(asked, slot, m.size-slot)
	}
	for _, slot := range asked {
		want, live := m.has[slot]
		if got, ok := x.Of(slot); !slices.Equal(got, want) || ok != live {
			t.Fatalf("%s: Of(%d) = %v, %v, want %v, %v", when, slot, got, ok, want, live)
		}
	}
}

func checkKey(t *testing.T, when string, x *posting.Index, m *model, key string) {
	t.Helper()
	is(t, when+": Has "+key, x.Has(key), m.size, m.hasKey(key))
	values := m.values(key)
	if got := x.Values(key); !slices.Equal(got, values) {
		t.Fatalf("%s: Values(%q) = %q, want %q", when, key, got, values)
	}
	asked := slices.Concat(values, oddTexts, []string{"x", "y"})
	for _, value := range asked {
		want := m.with(key, value)
		is(t, when+": With "+key+" "+value, x.With(key, value), m.size, want)
		if got := x.Count(key, value); got != len(want) {
			t.Fatalf("%s: Count(%q, %q) = %d, want %d", when, key, value, got, len(want))
		}
	}
	for _, list := range [][]string{nil, {}, oddTexts, values, asked, slices.Concat(asked, values, values), falling(values), every(values, 2), every(falling(values), 3)} {
		is(t, when+": In "+key+" "+strings.Join(list, ","), x.In(key, list), m.size, m.in(key, list))
	}
}

// falling is a list from its end on.
func falling(list []string) []string {
	turned := slices.Clone(list)
	slices.Reverse(turned)
	return turned
}

// every is each nth of a list.
func every(list []string, n int) []string {
	var some []string
	for i := 0; i < len(list); i += n {
		some = append(some, list[i])
	}
	return some
}
