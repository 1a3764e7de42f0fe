package queue_test

import (
	"slices"
	"testing"

	"berth/api"
	"berth/queue"
)

func expect(t *testing.T, what string, got, want api.Errno) {
	t.Helper()
	if got != want {
		t.Errorf("%s: %d, want %d", what, got, want)
	}
}

func expectReady(t *testing.T, q *queue.Queue, now int, want string, is bool) {
	t.Helper()
	if got, ok := q.Ready(now); got != want || ok != is {
		t.Errorf("Ready(%d): %q, %v, want %q, %v", now, got, ok, want, is)
	}
}

func expectList(t *testing.T, q *queue.Queue, want ...api.Waiting) {
	t.Helper()
	if got := q.List(); !slices.Equal(got, want) {
		t.Errorf("List: %v, want %v", got, want)
	}
}

// P25.1 to P25.7: the chapter's examples, one behind the other.
func TestExamples(t *testing.T) {
	q := queue.New()
	expect(t, "Push(a, 0)", q.Push("a", 0), api.OK)
	expect(t, "Push(b, 5)", q.Push("b", 5), api.OK)
	expect(t, "Push(c, 5)", q.Push("c", 5), api.OK)
	expect(t, "Push(b, 9)", q.Push("b", 9), api.ErrQueued)
	a, b, c := api.Waiting{Name: "a"}, api.Waiting{Name: "b", Priority: 5, Seq: 1}, api.Waiting{Name: "c", Priority: 5, Seq: 2}
	expectList(t, q, b, c, a)
	expectReady(t, q, 0, "b", true)

	expect(t, "Park(b, 10)", q.Park("b", 10), api.OK)
	b.Tries, b.Until, b.Asleep = 1, 11, true
	expectList(t, q, b, c, a)
	expectReady(t, q, 99, "c", true)
	q.Wake()
	b.Asleep = false
	expectList(t, q, b, c, a)
	expectReady(t, q, 10, "c", true)
	if w, e := q.Take("c"); w != c || e != api.OK {
		t.Errorf("Take(c): %v, %d", w, e)
	}
	expectReady(t, q, 10, "a", true)
	expectReady(t, q, 11, "b", true)

	expect(t, "Park(b, 20)", q.Park("b", 20), api.OK)
	b.Tries, b.Until, b.Asleep = 2, 22, true
	expectList(t, q, b, a)
	for i, until := range []int{24, 28, 36, 52, 84, 84} {
		expect(t, "Park(b, 20)", q.Park("b", 20), api.OK)
		b.Tries, b.Until = 3+i, until
		expectList(t, q, b, a)
	}

	if w, e := q.Take("b"); w != b || e != api.OK {
		t.Errorf("Take(b): %v, %d", w, e)
	}
	expect(t, "Push(b, 5)", q.Push("b", 5), api.OK)
	expectList(t, q, api.Waiting{Name: "b", Priority: 5, Seq: 3}, a)
	if q, e := queue.Restore([]api.Waiting{{Name: "a", Seq: 3}}, 3); q != nil || e != api.ErrWaiting {
		t.Errorf("Restore of a Seq that is not below next: %v, %d", q, e)
	}
	q, e := queue.Restore([]api.Waiting{}, 7)
	if q == nil || e != api.OK || q.Len() != 0 || q.Next() != 7 {
		t.Fatalf("Restore([], 7): %v, %d", q, e)
	}
	expect(t, "Push(z, 0)", q.Push("z", 0), api.OK)
	expectList(t, q, api.Waiting{Name: "z", Seq: 7})
}

// P25.1, P25.6: a new queue is empty, its next arrival's number is 0; one queue knows nothing of another.
func TestNew(t *testing.T) {
	first := made(t)
	first.check("New")
	expectReady(t, first.q, 0, "", false)
	first.push("a", 0)
	second := made(t)
	second.check("a second one")
	second.push("a", 3)
	second.push("b", 3)
	second.park("b", 8)
	first.check("the first one")
	second.check("the second one")
}
