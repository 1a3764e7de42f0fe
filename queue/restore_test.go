package queue_test

import (
	"math"
	"slices"
	"testing"

	"berth/api"
	"berth/queue"
)

// some is a list in the order of the queue, whose next number may be 20.
func some() []api.Waiting {
	return []api.Waiting{
		{Name: "d", Priority: 7, Seq: 11, Tries: 2, Until: 9},
		{Name: "", Priority: 7, Seq: 19, Tries: 1, Until: 4, Asleep: true},
		{Name: "b", Priority: 0, Seq: 0, Asleep: true},
		{Name: "a", Priority: 0, Seq: 3},
		{Name: "c", Priority: -5, Seq: 2, Tries: 90, Until: 1000},
	}
}

func expectNone(t *testing.T, what string, list []api.Waiting, next int) {
	t.Helper()
	if q, e := queue.Restore(list, next); q != nil || e != api.ErrWaiting {
		t.Errorf("%s: %v, %d", what, q, e)
	}
}

// P25.7: lists that may be, each number at its edges: List and Next tell them again, and the queue goes on from there.
func TestRestore(t *testing.T) {
	for n := range len(some()) + 1 {
		b := madeOf(t, some()[:n], 20)
		b.push("new", 7)
		b.push("a", 1)
		b.park("a", 3)
		b.park("d", 3)
		b.check("goes on")
		b.wake()
		b.check("woken")
		b.drain()
	}
	for _, numbers := range [][3]int{{0, 0, 0}, {1, 1, 1}, {0, maxTime, maxTime + maxWait}, {maxTime - 1, 0, maxTime + maxWait - 1}, {maxTime - 1, maxTime - 1, 0}} {
		for _, priority := range oddInts {
			for _, asleep := range []bool{false, true} {
				w := api.Waiting{Name: "a", Priority: priority, Seq: numbers[0], Tries: numbers[1], Until: numbers[2], Asleep: asleep}
				for _, next := range []int{w.Seq + 1, maxTime} {
					b := madeOf(t, []api.Waiting{w}, next)
					b.push("b", priority)
					b.park("a", 6)
					b.check("goes on")
				}
			}
		}
	}
}

// P25.7, R5: a list that is empty or nil, with each next number.
func TestRestoreOfNone(t *testing.T) {
	for _, list := range [][]api.Waiting{nil, {}, make([]api.Waiting, 0, 9)} {
		for _, next := range []int{0, 1, 7, most, maxTime - 1, maxTime} {
			b := madeOf(t, list, next)
			b.push("a", 3)
			b.check("goes on")
			b.drain()
		}
		for _, next := range []int{-1, -maxTime, math.MinInt, maxTime + 1, maxTime + 64, 1 << 62, math.MaxInt} {
			expectNone(t, "no next number", list, next)
		}
	}
}

// P25.7: each pod of a list with each single fault; the list without it may be.
func TestRestoreOfOneFault(t *testing.T) {
	madeOf(t, some(), 20)
	for at := range some() {
		for what, spoil := range map[string]func(*api.Waiting){
			"Seq below 0":                      func(w *api.Waiting) { w.Seq = -1 },
			"the least Seq":                    func(w *api.Waiting) { w.Seq = math.MinInt },
			"Seq next":                         func(w *api.Waiting) { w.Seq = 20 },
			"Seq above next":                   func(w *api.Waiting) { w.Seq = 21 },
			"the greatest Seq":                 func(w *api.Waiting) { w.Seq = math.MaxInt },
			"Tries below 0":                    func(w *api.Waiting) { w.Tries = -1 },
			"the least Tries":                  func(w *api.Waiting) { w.Tries = math.MinInt },
			"Tries above MaxTime":              func(w *api.Waiting) { w.Tries = maxTime + 1 },
			"the most Tries":                   func(w *api.Waiting) { w.Tries = math.MaxInt },
			"Until below 0":                    func(w *api.Waiting) { w.Until = -1 },
			"the least Until":                  func(w *api.Waiting) { w.Until = math.MinInt },
			"an Until above MaxTime + MaxWait": func(w *api.Waiting) { w.Until = maxTime + maxWait + 1 },
			"the greatest Until":               func(w *api.Waiting) { w.Until = math.MaxInt },
		} {
			list := some()
			spoil(&list[at])
			expectNone(t, what, list, 20)
			expectNone(t, what+", alone", list[at:at+1], 20)
			madeOf(t, slices.Delete(list, at, at+1), 20)
		}
	}
	for _, next := range []int{0, 19, -1, maxTime + 1, math.MinInt, math.MaxInt} {
		expectNone(t, "another next number", some(), next)
	}
}

// P25.7: of all lists of these pods in another order only the one in the order of the queue may be.
func TestRestoreOfAnotherOrder(t *testing.T) {
	list, lawful := some(), 0
	var turn func(int)
	turn = func(n int) {
		if n == len(list) {
			q, e := queue.Restore(list, 20)
			if right := slices.Equal(list, some()); (q != nil) != right || (e == api.OK) != right || !right && e != api.ErrWaiting {
				t.Errorf("%v: %v, %d", list, q, e)
			}
			if q != nil {
				lawful++
			}
			return
		}
		for i := n; i < len(list); i++ {
			list[n], list[i] = list[i], list[n]
			turn(n + 1)
			list[n], list[i] = list[i], list[n]
		}
	}
	turn(0)
	if lawful != 1 {
		t.Errorf("%d orders may be", lawful)
	}
}

// P25.7: two pods of one name, or of one Seq, wherever they stand; alike in all else they may be.
func TestRestoreOfDoubles(t *testing.T) {
	wide := func() []api.Waiting {
		var list []api.Waiting
		for i := range 6 {
			list = append(list, api.Waiting{Name: nth(i), Priority: -i, Seq: i})
		}
		return list
	}
	madeOf(t, wide(), 6)
	for a := range 6 {
		for b := range 6 {
			if a == b {
				continue
			}
			list := wide()
			list[a].Name = list[b].Name
			expectNone(t, "one name twice", list, 6)
			list = wide()
			list[a].Seq = list[b].Seq
			expectNone(t, "one Seq twice", list, 6)
		}
	}
	expectNone(t, "one pod twice", []api.Waiting{{Name: "a"}, {Name: "a"}}, 1)
	expectNone(t, "one Seq twice, the same priority", []api.Waiting{{Name: "a"}, {Name: "b"}}, 1)
	expectNone(t, "one name twice, the same priority", []api.Waiting{{Name: "a"}, {Name: "a", Seq: 1}}, 2)
	expectNone(t, "the empty name twice", []api.Waiting{{}, {Seq: 1}}, 2)
	alike := []api.Waiting{{Name: "a", Priority: 3, Tries: 4, Until: 5, Asleep: true}, {Name: "A", Priority: 3, Seq: 1, Tries: 4, Until: 5, Asleep: true}}
	madeOf(t, alike, 2)
}

// P25.7: MaxPending pods may be, not one more.
func TestRestoreOfMany(t *testing.T) {
	var list []api.Waiting
	for i := range most + 2 {
		list = append(list, api.Waiting{Name: nth(i), Priority: (most + 2 - i) / 3, Seq: i})
	}
	madeOf(t, list[:most-1], maxTime)
	b := madeOf(t, list[:most], maxTime-1)
	expect(t, "Push", b.push("more", 0), api.ErrQueueFull)
	b.take("n9")
	expect(t, "Push", b.push("more", 0), api.OK)
	b.checkList("goes on")
	expectNone(t, "one too many", list[:most+1], maxTime)
	expectNone(t, "two too many", list, maxTime)
	expectNone(t, "far too many", make([]api.Waiting, 1000000), maxTime)
	for _, at := range []int{0, 1000, most - 1} {
		spoilt := slices.Clone(list[:most])
		spoilt[at].Tries = -1
		expectNone(t, "a fault among many", spoilt, maxTime)
	}
	double := slices.Clone(list[:most])
	double[most-1].Name = "n0"
	expectNone(t, "the first name at the end", double, maxTime)
}

// P25.7: any list of two of a few pods is a queue or none as the chapter says.
func TestRestoreOfAnyTwo(t *testing.T) {
	var all []api.Waiting
	for _, name := range []string{"", "a"} {
		for _, priority := range []int{math.MinInt, 0, math.MaxInt} {
			for _, seq := range []int{-1, 0, 1, 2} {
				for _, until := range []int{-1, 0, maxTime + 64, maxTime + 65} {
					all = append(all, api.Waiting{Name: name, Priority: priority, Seq: seq, Until: until})
				}
			}
		}
	}
	fits := func(w api.Waiting, next int) bool {
		return w.Seq >= 0 && w.Seq < next && w.Until >= 0 && w.Until <= maxTime+64
	}
	for _, a := range all {
		for _, b := range all {
			for next := range 4 {
				right := fits(a, next) && fits(b, next) && a.Name != b.Name && a.Seq != b.Seq && isAhead(a, b)
				q, e := queue.Restore([]api.Waiting{a, b}, next)
				if (q != nil) != right || right && e != api.OK || !right && e != api.ErrWaiting {
					t.Fatalf("%v, %v, %d: %v, %d", a, b, next, q, e)
				}
			}
		}
	}
}
