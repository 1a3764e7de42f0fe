package posting_test

import (
	"math/rand/v2"
	"slices"
	"strconv"
	"testing"

	"berth/api"
)

// source makes arguments by chance: mostly right ones of a few slots, keys and values, now and then wrong ones.
type source struct{ *rand.Rand }

func (r source) oneOf(list ...string) string { return list[r.IntN(len(list))] }

func (r source) slot(size int) int {
	if r.IntN(20) == 0 {
		return oddInts[r.IntN(len(oddInts))]
	}
	return r.IntN(size+2) - 1
}

// labels is a list in its order of some of the keys; now and then one key stands twice, out of its order or is none.
func (r source) labels() []api.Label {
	var list []api.Label
	for _, key := range []string{"a.example/x", "app", "disk", "zone", "zones"} {
		if r.IntN(3) == 0 {
			list = append(list, api.Label{Key: key, Value: r.oneOf("", "-5", "app", "x", "y", "zone")})
		}
	}
	switch r.IntN(40) {
	case 0:
		list = append(list, api.Label{Key: r.oneOf("", "app", "zone", "-"), Value: "x"})
	case 1:
		list = append(list, api.Label{Key: "zz", Value: r.oneOf("-", "x ", "é")})
	case 2:
		slices.Reverse(list)
	}
	return list
}

// step is one call by chance; gone is how much of ten are drops.
func (r source) step(b both, gone int) api.Errno {
	b.t.Helper()
	slot := r.slot(b.m.size)
	switch at := r.IntN(10); {
	case at < gone:
		return b.drop(slot)
	case at%2 == 0:
		return b.set(slot, r.labels()...)
	}
	return b.put(slot, r.labels()...)
}

// P7.1 to P7.5: long courses by chance, in which the index fills and empties; behind each call it is what the model is.
func TestCourses(t *testing.T) {
	for seed := range uint64(12) {
		r := source{rand.New(rand.NewPCG(seed, 7))}
		size := []int{1, 3, 6, 64, 65, 130}[seed%6]
		b, last := made(t, size), made(t, size)
		met := map[api.Errno]int{}
		for i := range 400 {
			met[r.step(b, []int{1, 4, 2, 8}[i/100])]++
			if i%4 == 0 {
				b.check("seed " + strconv.FormatUint(seed, 10) + ", step " + strconv.Itoa(i))
			}
			same(t, "step "+strconv.Itoa(i), b.x, last.x, sameModels(b.m, last.m))
			if r.IntN(50) == 0 {
				last = rebuilt(r, b)
			}
		}
		for _, err := range []api.Errno{api.OK, api.ErrSlotRange, api.ErrSlotTaken, api.ErrNoSlot} {
			if met[err] == 0 {
				t.Errorf("seed %d never meets %d", seed, err)
			}
		}
		same(t, "built anew", b.x, rebuilt(r, b).x, true)
	}
}

func sameModels(a, b *model) bool {
	if len(a.has) != len(b.has) {
		return false
	}
	for slot, list := range a.has {
		if other, live := b.has[slot]; !live || !slices.Equal(list, other) {
			return false
		}
	}
	return true
}

// rebuilt is an index with the same slots and labels, of another size, that came to them in another order and by other labels.
func rebuilt(r source, b both) both {
	b.t.Helper()
	other := made(b.t, b.m.size+r.IntN(70))
	slots := b.m.live()
	r.Shuffle(len(slots), func(i, j int) { slots[i], slots[j] = slots[j], slots[i] })
	for _, slot := range slots {
		other.put(slot, r.labels()...)
	}
	for _, slot := range slots {
		if other.set(slot, b.m.has[slot]...) != api.OK {
			other.put(slot, b.m.has[slot]...)
		}
	}
	other.check("built anew")
	return other
}

// P7.1 to P7.4: every course of four calls over two slots and three lists, behind each call what the model is.
func TestEveryShortCourse(t *testing.T) {
	lists := [][]api.Label{nil, tags("zone", "x"), tags("app", "x", "zone", "y")}
	calls := []func(b both) api.Errno{
		func(b both) api.Errno { return b.drop(0) },
		func(b both) api.Errno { return b.drop(1) },
	}
	for _, slot := range []int{0, 1} {
		for _, list := range lists {
			calls = append(calls,
				func(b both) api.Errno { return b.put(slot, list...) },
				func(b both) api.Errno { return b.set(slot, list...) })
		}
	}
	courses := 1
	for range 4 {
		courses *= len(calls)
	}
	for course := range courses {
		b := made(t, 2)
		for rest, i := course, 0; i < 4; rest, i = rest/len(calls), i+1 {
			calls[rest%len(calls)](b)
		}
		glance(b, "course "+strconv.Itoa(course))
	}
}

// glance is a check of what the short courses may change, and no more.
func glance(b both, when string) {
	b.t.Helper()
	is(b.t, when+": Live", b.x.Live(), b.m.size, b.m.live())
	texts(b.t, when+": Keys", b.x.Keys(), b.m.keys()...)
	for _, key := range []string{"app", "zone"} {
		texts(b.t, when+": Values", b.x.Values(key), b.m.values(key)...)
		is(b.t, when+": Has", b.x.Has(key), b.m.size, b.m.hasKey(key))
		for _, value := range []string{"x", "y"} {
			is(b.t, when+": With", b.x.With(key, value), b.m.size, b.m.with(key, value))
		}
	}
	for slot := range b.m.size {
		want, live := b.m.has[slot]
		if got, ok := b.x.Of(slot); !slices.Equal(got, want) || ok != live {
			b.t.Fatalf("%s: Of(%d) = %v, %v", when, slot, got, ok)
		}
	}
}
