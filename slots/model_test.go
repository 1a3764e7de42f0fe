package slots_test

import (
	"maps"
	"math"
	"slices"
	"strconv"
	"strings"
	"testing"

	"berth/api"
	"berth/slots"
)

// held is what a name has in the model.
type held[T any] struct {
	slot  int
	value T
}

// model is a table by its meaning alone: the calls' answers are held against it.
type model[T any] struct {
	most int
	has  map[string]held[T]
	peak int // the greatest number of names at one time
}

func newModel[T any](most int) *model[T] { return &model[T]{most: most, has: map[string]held[T]{}} }

func badName(name string) bool { return name == "" || len(name) >= 64 }

func (m *model[T]) isFree(slot int) bool {
	for _, h := range m.has {
		if h.slot == slot {
			return false
		}
	}
	return true
}

func (m *model[T]) put(name string, v T) (int, api.Errno) {
	_, there := m.has[name]
	switch {
	case badName(name):
		return 0, api.ErrSlotName
	case there:
		return 0, api.ErrSlotThere
	case len(m.has) >= m.most:
		return 0, api.ErrSlotFull
	}
	slot := 0
	for !m.isFree(slot) {
		slot++
	}
	m.has[name] = held[T]{slot, v}
	m.peak = max(m.peak, len(m.has))
	return slot, api.OK
}

func (m *model[T]) set(name string, v T) api.Errno {
	h, there := m.has[name]
	switch {
	case badName(name):
		return api.ErrSlotName
	case !there:
		return api.ErrSlotGone
	}
	m.has[name] = held[T]{h.slot, v}
	return api.OK
}

func (m *model[T]) drop(name string) (int, api.Errno) {
	h, there := m.has[name]
	switch {
	case badName(name):
		return 0, api.ErrSlotName
	case !there:
		return 0, api.ErrSlotGone
	}
	delete(m.has, name)
	return h.slot, api.OK
}

func (m *model[T]) copied() *model[T] { return &model[T]{m.most, maps.Clone(m.has), m.peak} }

func (m *model[T]) span() int {
	n := 0
	for _, h := range m.has {
		n = max(n, h.slot+1)
	}
	return n
}

// pair is what a walk gives at one step.
type pair struct {
	slot int
	name string
}

func (m *model[T]) pairs() []pair {
	out := []pair{}
	for name, h := range m.has {
		out = append(out, pair{h.slot, name})
	}
	slices.SortFunc(out, func(a, b pair) int { return a.slot - b.slot })
	return out
}

func walked(walk func(func(int, string) bool)) []pair {
	out := []pair{}
	for slot, name := range walk {
		out = append(out, pair{slot, name})
	}
	return out
}

// oddInts are numbers that are no slot of any table, or are at the edge of one.
var oddInts = []int{math.MinInt, math.MinInt + 1, -1 << 32, -65, -64, -1, 65535, 65536, 65537, 1 << 32, 1 << 62, math.MaxInt}

// wrongNames are texts that are no name.
var wrongNames = []string{"", strings.Repeat("n", 64), strings.Repeat("\x00", 64), strings.Repeat("é", 32), strings.Repeat("n", 5000)}

// oddNames are names all the same: only the count of bytes matters.
var oddNames = []string{"\x00", "\x00\x00", " ", "A", "-", "\xff", "\xff\xfe", "é", "e\u0301", "n\x00", strings.Repeat("n", 62), strings.Repeat("n", 63), strings.Repeat("\xff", 63), strings.Repeat("é", 31)}

// check holds all that a table tells against the model.
func check[T comparable](t *testing.T, what string, x *slots.Table[T], m *model[T]) {
	t.Helper()
	if x.Len() != len(m.has) || x.Span() != m.span() {
		t.Fatalf("%s: Len %d, Span %d, want %d, %d", what, x.Len(), x.Span(), len(m.has), m.span())
	}
	if got, want := x.Names(), slices.Sorted(maps.Keys(m.has)); !slices.Equal(got, want) {
		t.Fatalf("%s: Names %q, want %q", what, got, want)
	}
	if got := walked(x.All()); !slices.Equal(got, m.pairs()) {
		t.Fatalf("%s: All gives %v, want %v", what, got, m.pairs())
	}
	checkSlots(t, what, x, m)
	checkNames(t, what, x, m)
}

func checkSlots[T comparable](t *testing.T, what string, x *slots.Table[T], m *model[T]) {
	t.Helper()
	var zero T
	at := map[int]string{}
	for name, h := range m.has {
		at[h.slot] = name
	}
	asked := slices.Clone(oddInts)
	for i := range m.span() + 70 {
		asked = append(asked, i)
	}
	for _, slot := range asked {
		want, there := at[slot]
		value := zero
		if there {
			value = m.has[want].value
		}
		if name, v, ok := x.At(slot); name != want || v != value || ok != there {
			t.Fatalf("%s: At(%d) = %q, %v, %v, want %q, %v, %v", what, slot, name, v, ok, want, value, there)
		}
	}
}

func checkNames[T comparable](t *testing.T, what string, x *slots.Table[T], m *model[T]) {
	t.Helper()
	asked := slices.Concat(wrongNames, oddNames, slices.Collect(maps.Keys(m.has)), []string{"a", "b", "c", "d", "never"})
	for _, name := range asked {
		want, there := m.has[name] // the zero value where it isn't there
		if slot, v, ok := x.Find(name); slot != want.slot || v != want.value || ok != there {
			t.Fatalf("%s: Find(%q) = %d, %v, %v, want %d, %v, %v", what, name, slot, v, ok, want.slot, want.value, there)
		}
	}
}

// both is a table and what it must be like; each change is made to both.
type both[T comparable] struct {
	t *testing.T
	x *slots.Table[T]
	m *model[T]
}

func made[T comparable](t *testing.T, most int) both[T] {
	t.Helper()
	x, err := slots.New[T](most)
	if x == nil || err != api.OK {
		t.Fatalf("New(%d): %v, %d", most, x, err)
	}
	return both[T]{t, x, newModel[T](most)}
}

func (b both[T]) put(name string, v T) (int, api.Errno) {
	b.t.Helper()
	slot, err := b.x.Put(name, v)
	if s, e := b.m.put(name, v); slot != s || err != e {
		b.t.Fatalf("Put(%q, %v) = %d, %d, want %d, %d", name, v, slot, err, s, e)
	}
	return slot, err
}

func (b both[T]) set(name string, v T) {
	b.t.Helper()
	if err, e := b.x.Set(name, v), b.m.set(name, v); err != e {
		b.t.Fatalf("Set(%q, %v) = %d, want %d", name, v, err, e)
	}
}

func (b both[T]) drop(name string) (int, api.Errno) {
	b.t.Helper()
	slot, err := b.x.Drop(name)
	if s, e := b.m.drop(name); slot != s || err != e {
		b.t.Fatalf("Drop(%q) = %d, %d, want %d, %d", name, slot, err, s, e)
	}
	return slot, err
}

func (b both[T]) check(what string) {
	b.t.Helper()
	check(b.t, what, b.x, b.m)
}

// copied is a copy of the table beside a copy of the model, whose values of has gone over too.
func (b both[T]) copied(of func(T) T) both[T] {
	b.t.Helper()
	c := both[T]{b.t, b.x.Copy(of), b.m.copied()}
	if c.x == nil {
		b.t.Fatal("Copy is nil")
	}
	for name, h := range c.m.has {
		if of != nil {
			c.m.has[name] = held[T]{h.slot, of(h.value)}
		}
	}
	return c
}

// filled puts n names, n0 on, into a new table.
func filled(t *testing.T, most, n int) both[int] {
	t.Helper()
	b := made[int](t, most)
	for i := range n {
		b.put(nth(i), 100+i)
	}
	return b
}

func nth(i int) string { return "n" + strconv.Itoa(i) }
