package queue_test

import (
	"fmt"
	"slices"
	"sync"
	"testing"

	"berth/api"
	"berth/queue"
)

var over = api.Waiting{Name: "over", Priority: 1 << 50, Seq: -7, Tries: -7, Until: -7, Asleep: true}

// overwrite fills a list, its spare room too, with what no queue may tell.
func overwrite(list []api.Waiting) {
	list = list[:cap(list)]
	for i := range list {
		list[i] = over
	}
}

// R6: the list that was handed in to Restore stays as it is, spare room included, whatever the queue does then.
func TestListHandedInIsNotChanged(t *testing.T) {
	whole := append(some(), over, over, over)
	want := slices.Clone(whole)
	b := madeOf(t, whole[:len(some())], 20)
	b.push("new", 7)
	b.push("new2", 70)
	b.take("d")
	b.park("b", 8)
	b.wake()
	b.check("goes on")
	b.drain()
	if !slices.Equal(whole, want) {
		t.Errorf("%v, was %v", whole, want)
	}
	spoilt := append(some(), over, over)
	want = slices.Clone(spoilt)
	if q, e := queue.Restore(spoilt[:len(some())+1], 20); q != nil || e != api.ErrWaiting {
		t.Errorf("a list that may not be: %v, %d", q, e)
	}
	if !slices.Equal(spoilt, want) {
		t.Errorf("refused: %v, was %v", spoilt, want)
	}
}

// R6: the list that was handed in may be written over, and the queue stays.
func TestListHandedInIsNotKept(t *testing.T) {
	list := append(some(), over, over, over)[:len(some())]
	b := madeOf(t, list, 20)
	overwrite(list)
	b.check("written over")
	b.push("new", 7)
	b.park("a", 7)
	overwrite(list)
	b.check("goes on")
	b.drain()
}

// R6, P25.6: a list that List answered shares nothing with the queue nor with another list, whatever is done to either.
func TestListIsNew(t *testing.T) {
	for n := range 20 {
		b := filled(t, n, 3)
		first, second, want := b.q.List(), b.q.List(), b.m.list()
		overwrite(first)
		_ = append(first, over, over)
		b.check("a list is written over")
		if !slices.Equal(second, want) {
			t.Fatalf("another list: %v", second)
		}
		for i := range n {
			b.park(nth(i), i)
		}
		b.push("new", 9)
		b.take(nth(0))
		b.wake()
		if !slices.Equal(second, want) {
			t.Fatalf("the list behind calls: %v", second)
		}
		overwrite(second)
		b.push("newer", 10)
		b.check("changed")
		b.drain()
	}
}

// R6, P25.7: a queue and the one restored of it share nothing.
func TestRestoredIsOfItsOwn(t *testing.T) {
	for seed := range uint64(20) {
		r := newChance(100 + seed)
		a := made(t)
		for range 60 {
			r.step(a)
		}
		b := a.restored()
		for range 100 {
			r.step(one(r, a, b))
			a.check("the one")
			b.check("the other")
		}
	}
}

// R9: what a queue answers hangs on its own calls alone, not on what others do at the same time.
func TestQueuesSideBySide(t *testing.T) {
	run := func(seed uint64) string {
		r, b := newChance(seed), made(t)
		for range 400 {
			r.step(b)
		}
		return fmt.Sprint(b.q.List(), b.q.Next())
	}
	var want [8]string
	for i := range want {
		want[i] = run(uint64(i))
	}
	var every sync.WaitGroup
	for i := range want {
		every.Go(func() {
			if got := run(uint64(i)); got != want[i] {
				t.Errorf("%s, want %s", got, want[i])
			}
		})
	}
	every.Wait()
}
