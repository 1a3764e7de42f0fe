package ordered_test

import (
	"maps"
	"math/rand/v2"
	"strconv"
	"testing"

	"berth/api"
)

// source makes arguments by chance: mostly right ones of a few keys, slots and numbers, now and then wrong ones.
type source struct{ *rand.Rand }

func (r source) key() string {
	if r.IntN(40) == 0 {
		return oddKeys[r.IntN(len(oddKeys))]
	}
	return []string{"cores", "core", "rank"}[r.IntN(3)]
}

func (r source) slot(size int) int {
	if r.IntN(20) == 0 {
		return oddInts[r.IntN(len(oddInts))]
	}
	return r.IntN(size+2) - 1
}

func (r source) number() int {
	switch r.IntN(4) {
	case 0:
		return oddInts[r.IntN(len(oddInts))]
	case 1:
		return int(r.Uint64())
	}
	return r.IntN(9) - 4
}

// step is one call by chance; gone is how much of ten are deletions.
func (r source) step(b both, gone int) api.Errno {
	b.t.Helper()
	key, slot := r.key(), r.slot(b.m.size)
	if r.IntN(10) < gone {
		return b.del(key, slot)
	}
	return b.put(key, slot, r.number())
}

// P8.1 to P8.4: long courses by chance, in which the index fills and empties; behind the calls it is what the model is, and a walk that was begun earlier gives what stood then.
func TestCourses(t *testing.T) {
	for seed := range uint64(12) {
		r := source{rand.New(rand.NewPCG(seed, 8))}
		size := []int{1, 3, 6, 64, 65, 130}[seed%6]
		b, last := made(t, size), made(t, size)
		walk, then := b.x.Rows("cores"), b.m.rows("cores")
		met := map[api.Errno]int{}
		for i := range 400 {
			met[r.step(b, []int{1, 4, 2, 8}[i/100])]++
			if i%8 == 0 {
				b.check("seed " + strconv.FormatUint(seed, 10) + ", step " + strconv.Itoa(i))
			}
			if !sameRows(walked(t, walk, size), then) {
				t.Fatalf("seed %d, step %d: an earlier walk gives %v, want %v", seed, i, walked(t, walk, size), then)
			}
			if r.IntN(10) == 0 {
				walk, then = b.x.Rows("cores"), b.m.rows("cores")
			}
			same(t, "step "+strconv.Itoa(i), b.x, last.x, maps.Equal(b.m.has, last.m.has))
			if r.IntN(50) == 0 {
				last = rebuilt(r, b)
			}
		}
		for _, err := range []api.Errno{api.OK, api.ErrRankSlot, api.ErrRankThere, api.ErrRankGone} {
			if met[err] == 0 {
				t.Errorf("seed %d never meets %d", seed, err)
			}
		}
		same(t, "built anew", b.x, rebuilt(r, b).x, true)
	}
}

// rebuilt is an index with the same entries, of another size, that came to them in another order and by other numbers.
func rebuilt(r source, b both) both {
	b.t.Helper()
	other := made(b.t, b.m.size+r.IntN(70))
	entries := b.m.entries()
	r.Shuffle(len(entries), func(i, j int) { entries[i], entries[j] = entries[j], entries[i] })
	for _, e := range entries {
		other.put(e.key, e.slot, r.number())
	}
	for _, e := range entries {
		other.del(e.key, e.slot)
		other.put(e.key, e.slot, b.m.has[e])
	}
	other.check("built anew")
	return other
}

// P8.1 to P8.3: every course of five calls over two keys, two slots and two numbers, behind it what the model is.
func TestEveryShortCourse(t *testing.T) {
	var calls []func(b both) api.Errno
	for _, e := range []entry{{"a", 0}, {"a", 1}, {"b", 0}} {
		calls = append(calls,
			func(b both) api.Errno { return b.del(e.key, e.slot) },
			func(b both) api.Errno { return b.put(e.key, e.slot, 0) },
			func(b both) api.Errno { return b.put(e.key, e.slot, -1) })
	}
	courses := 1
	for range 5 {
		courses *= len(calls)
	}
	for course := range courses {
		b := made(t, 2)
		for rest, i := course, 0; i < 5; rest, i = rest/len(calls), i+1 {
			calls[rest%len(calls)](b)
		}
		glance(b, "course "+strconv.Itoa(course))
	}
}

// glance is a check of what the short courses may change, and no more.
func glance(b both, when string) {
	b.t.Helper()
	texts(b.t, when+": Keys", b.x.Keys(), b.m.keys()...)
	for _, key := range []string{"a", "b"} {
		if got := walked(b.t, b.x.Rows(key), b.m.size); !sameRows(got, b.m.rows(key)) {
			b.t.Fatalf("%s: Rows(%q) gives %v", when, key, got)
		}
		is(b.t, when+": Has", b.x.Has(key), b.m.size, b.m.hasKey(key))
		is(b.t, when+": Find", b.x.Find(key, api.CmpLt, 0), b.m.size, b.m.find(key, api.CmpLt, 0))
		for slot := range b.m.size {
			n, there := b.m.has[entry{key, slot}]
			number(b.t, b.x, key, slot, n, there)
		}
	}
}
