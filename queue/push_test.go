package queue_test

import (
	"testing"

	"berth/api"
	"berth/queue"
)

// P25.1, P25.6: each pod is told as it came: the next number, no tries, no wait, awake; a greater priority goes ahead, of the same priority the earlier one.
func TestPush(t *testing.T) {
	b := made(t)
	for i, priority := range []int{3, -2, 3, 0, 7, -2, 0, 7, 3, -9, 8} {
		if e := b.push(nth(i), priority); e != api.OK {
			t.Fatalf("Push: %d", e)
		}
		b.check("pushed")
		if got, _ := b.take(nth(i)); got != (api.Waiting{Name: nth(i), Priority: priority, Seq: 2 * i}) {
			t.Fatalf("%v", got)
		}
		b.push(nth(i), priority)
	}
	b.check("pushed again")
	b.drain()
}

// P25.1: any text is a name, any int a priority.
func TestOddNamesAndPriorities(t *testing.T) {
	b := made(t)
	for _, name := range oddNames {
		for i, priority := range oddInts {
			b.push(name, priority)
			b.push(name+nth(i), priority)
		}
	}
	b.check("pushed")
	for i, name := range oddNames {
		b.park(name, i)
	}
	b.check("parked")
	for _, name := range append(oddNames, "never", "b") {
		b.take(name)
		b.take(name)
	}
	b.check("taken")
	b.drain()
}

// P25.3: the empty text may be the name of the pod that is ready.
func TestEmptyNameIsReady(t *testing.T) {
	b := made(t)
	expectReady(t, b.q, 0, "", false)
	b.push("", 0)
	expectReady(t, b.q, 0, "", true)
	b.push("a", 0)
	expectReady(t, b.q, 0, "", true)
	b.push("b", 1)
	expectReady(t, b.q, 0, "b", true)
	b.check("the empty name")
}

// P25.1, R4: a name that waits is refused whatever its pod does, and nothing changes by it: the pod keeps its priority, and no number is used up.
func TestPushOfAPodThatWaits(t *testing.T) {
	b := made(t)
	b.push("a", 1)
	b.push("b", 2)
	again := func(what string) {
		t.Helper()
		for _, name := range []string{"a", "b"} {
			for _, priority := range oddInts {
				expect(t, what, b.push(name, priority), api.ErrQueued)
			}
		}
		b.check(what)
	}
	again("awake")
	b.park("a", 5)
	again("asleep")
	b.wake()
	again("awake, with an Until ahead")
	b.take("a")
	b.push("a", -4)
	again("pushed again")
	if b.q.Next() != 3 {
		t.Errorf("Next: %d", b.q.Next())
	}
}

// P25.1, R4: MaxPending pods may wait, not one more; a place that is free again is taken by the next one.
func TestFull(t *testing.T) {
	for _, priorities := range []int{1, 2, 5, 3000} {
		b := filled(t, most-1, priorities)
		b.checkList("nearly full")
		expect(t, "the last one", b.push("last", 1), api.OK)
		b.checkList("full")
		expect(t, "one more", b.push("more", 9), api.ErrQueueFull)
		expect(t, "a name that waits", b.push("n7", 9), api.ErrQueued)
		expect(t, "a name that waits", b.push("last", 9), api.ErrQueued)
		b.checkList("refused")
		b.park("n5", 3)
		expect(t, "one more, with one asleep", b.push("more", 9), api.ErrQueueFull)
		b.take("n5")
		expect(t, "in the place of one", b.push("more", 9), api.OK)
		if got := b.q.List()[b.q.Len()-1]; priorities == 1 && got.Name != "n2046" {
			t.Errorf("the last one: %v", got)
		}
		expect(t, "n5 again", b.push("n5", 0), api.ErrQueueFull)
		b.checkList("full again")
		b.wake()
		b.restored().checkList("restored")
		b.drain()
	}
}

// P25.1: the number ahead of MaxTime is the last that is given; Take gives none back.
func TestLastArrival(t *testing.T) {
	b := madeOf(t, nil, maxTime-2)
	expect(t, "the last but one", b.push("a", 0), api.OK)
	expect(t, "the last", b.push("b", 0), api.OK)
	for range 2 {
		expect(t, "one more", b.push("c", 0), api.ErrArrivals)
		expect(t, "a name that waits", b.push("b", 0), api.ErrQueued)
		b.check("no number is left")
	}
	if got, _ := b.take("b"); got.Seq != maxTime-1 {
		t.Errorf("Take: %v", got)
	}
	expect(t, "b again", b.push("b", 0), api.ErrArrivals)
	b.take("a")
	expect(t, "a again", b.push("a", 0), api.ErrArrivals)
	b.check("nothing waits any more")
	if b.q.Next() != maxTime {
		t.Errorf("Next: %d", b.q.Next())
	}
	expect(t, "at MaxTime", madeOf(t, nil, maxTime).push("a", 0), api.ErrArrivals)
	expect(t, "below it", madeOf(t, nil, maxTime-1).push("a", 0), api.OK)
}

// P25.1, R2: of several errors the first is told: ErrQueued, ErrQueueFull, ErrArrivals.
func TestOrderOfPushErrors(t *testing.T) {
	b := madeOf(t, filled(t, most, 3).q.List(), maxTime)
	expect(t, "all three", b.push("n0", 1), api.ErrQueued)
	expect(t, "full, and no number left", b.push("more", 1), api.ErrQueueFull)
	b.take("n0")
	expect(t, "waits, and no number left", b.push("n1", 1), api.ErrQueued)
	expect(t, "no number left", b.push("n0", 1), api.ErrArrivals)
	b.checkList("refused")
	var none *queue.Queue
	expect(t, "nil", none.Push("", 1), api.ErrNil)
}
