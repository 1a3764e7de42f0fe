package queue_test

import (
	"testing"

	"berth/api"
)

// P25.2: what the queue tells of the pod, as it stands; it is gone then.
func TestTake(t *testing.T) {
	b := made(t)
	for i := range 6 {
		b.push(nth(i), i%3)
	}
	b.park("n1", 9)
	b.park("n2", 0)
	b.wake()
	b.park("n2", 100)
	b.park("n3", 7)
	for name, want := range map[string]api.Waiting{
		"n0": {Name: "n0"},
		"n1": {Name: "n1", Priority: 1, Seq: 1, Tries: 1, Until: 10},
		"n2": {Name: "n2", Priority: 2, Seq: 2, Tries: 2, Until: 102, Asleep: true},
		"n3": {Name: "n3", Seq: 3, Tries: 1, Until: 8, Asleep: true},
	} {
		if got, e := b.take(name); got != want || e != api.OK {
			t.Errorf("Take(%s): %v, %d, want %v", name, got, e, want)
		}
		b.check("taken")
	}
	b.drain()
}

// P25.2, R3, R4: a name that is not in the queue: never there, taken, or another name's neighbour.
func TestTakeOfNone(t *testing.T) {
	b := made(t)
	none := func(name string) {
		t.Helper()
		if got, e := b.take(name); got != (api.Waiting{}) || e != api.ErrNotQueued {
			t.Errorf("Take(%.20q): %v, %d", name, got, e)
		}
		b.check("no such name")
	}
	none("")
	none("a")
	b.push("a", 4)
	b.push("b", 4)
	for _, name := range oddNames {
		if name != "a" {
			none(name)
		}
	}
	b.take("a")
	none("a")
	none("a")
	b.take("b")
	none("b")
}

// P25.2, P25.6: from each place of the queue a pod may go; the others stay in their order.
func TestTakeFromEachPlace(t *testing.T) {
	for n := range 9 {
		for i := range n {
			b := filled(t, n, 3)
			b.take(nth(i))
			b.check("one is gone")
			b.push(nth(i), 0)
			b.check("it is there again")
			b.drain()
		}
	}
}

// P25.2: a pod that is pushed again arrives anew: behind the others, with no tries and no wait.
func TestPushedAgain(t *testing.T) {
	b := made(t)
	b.push("a", 5)
	b.push("b", 5)
	for i := range 10 {
		b.park("a", 50)
		b.park("a", 50)
		b.take("a")
		b.push("a", 5)
		b.check("a again")
		if got := b.q.List(); got[0].Name != "b" || got[1] != (api.Waiting{Name: "a", Priority: 5, Seq: 2 + i}) {
			t.Fatalf("%v", got)
		}
	}
	b.take("a")
	b.push("a", 6)
	if got := b.q.List(); got[0] != (api.Waiting{Name: "a", Priority: 6, Seq: 12}) {
		t.Errorf("%v", got)
	}
}
