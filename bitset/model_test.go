package bitset_test

import (
	"math"
	"math/rand/v2"
	"slices"
	"strconv"
	"testing"

	"berth/api"
	"berth/bitset"
)

// model is a set by its meaning alone: the calls' answers are held against it.
type model struct {
	size int
	in   map[int]bool
}

func newModel(size int, places ...int) model {
	m := model{size, map[int]bool{}}
	for _, i := range places {
		m.in[i] = true
	}
	return m
}

func (m model) members() []int {
	out := []int{}
	for i := range m.size {
		if m.in[i] {
			out = append(out, i)
		}
	}
	return out
}

func (m model) words() []uint64 {
	out := make([]uint64, (m.size+63)/64)
	for i := range m.in {
		out[i/64] |= 1 << (i % 64)
	}
	return out
}

func (m model) pick(size int, keep func(int) bool) model {
	out := newModel(size)
	for i := range size {
		if keep(i) {
			out.in[i] = true
		}
	}
	return out
}

// subject is a set with what it must be like; the set may be nil.
type subject struct {
	name string
	set  *bitset.Set
	model
}

func from(t *testing.T, n int, places ...int) *bitset.Set {
	t.Helper()
	s, err := bitset.From(n, places)
	if s == nil || err != api.OK {
		t.Fatalf("From(%d, %v): %v, %d", n, places, s, err)
	}
	return s
}

func check(t *testing.T, what string, s *bitset.Set, want model) {
	t.Helper()
	if s == nil {
		t.Fatalf("%s: nil", what)
	}
	checkLike(t, what, s, want)
}

func checkLike(t *testing.T, what string, s *bitset.Set, want model) {
	t.Helper()
	if s.Size() != want.size {
		t.Errorf("%s: size %d, want %d", what, s.Size(), want.size)
	}
	if got := s.Members(); !slices.Equal(got, want.members()) {
		t.Errorf("%s: members %v, want %v", what, got, want.members())
	}
	if got := s.Words(); !slices.Equal(got, want.words()) {
		t.Errorf("%s: words %x, want %x", what, got, want.words())
	}
	if s.Count() != len(want.members()) {
		t.Errorf("%s: Count %d, want %d", what, s.Count(), len(want.members()))
	}
}

// shapes: for a size, which places are in: none, all, the edges, and two scatterings.
func shapes(size int) map[string]func(int) bool {
	thick := rand.New(rand.NewPCG(uint64(size), 1))
	thin := rand.New(rand.NewPCG(uint64(size), 2))
	return map[string]func(int) bool{
		"none":  func(int) bool { return false },
		"all":   func(int) bool { return true },
		"edges": func(i int) bool { return i == 0 || i == size-1 || i%64 == 0 || i%64 == 63 },
		"last":  func(i int) bool { return i == size-1 },
		"thick": func(int) bool { return thick.IntN(2) == 0 },
		"thin":  func(int) bool { return thin.IntN(50) == 0 },
	}
}

// subjects makes sets anew at each call, so that a test may change its own.
func subjects(t *testing.T, sizes ...int) []subject {
	t.Helper()
	out := []subject{{"nil", nil, newModel(0)}}
	for _, size := range sizes {
		for shape, keep := range shapes(size) {
			m := newModel(size).pick(size, keep)
			out = append(out, subject{shape + " of " + strconv.Itoa(size), from(t, size, m.members()...), m})
		}
	}
	return out
}

var smallSizes = []int{0, 1, 2, 63, 64, 65, 70, 127, 128, 129, 200}

// anyInts: the ints that Next, Prev, Rank, Select, Has are asked for.
func anyInts(size int) []int {
	out := []int{math.MinInt, math.MinInt + 1, -1 << 40, -65, -64, -63, 1 << 16, 1 << 32, 1 << 40, math.MaxInt - 1, math.MaxInt}
	for i := -2; i < min(size, 300)+130; i++ {
		out = append(out, i)
	}
	for d := -2; d <= 65; d++ {
		out = append(out, size+d)
	}
	return out
}
