package queue_test

import (
	"slices"
	"testing"

	"berth/api"
	"berth/queue"
)

// parked is what the queue tells of its pod a behind a Park at this time.
func parked(t *testing.T, b both, now int) api.Waiting {
	t.Helper()
	expect(t, "Park", b.park("a", now), api.OK)
	b.check("parked")
	return *b.m.find("a")
}

// P25.4: the waits are 1, 2, 4, 8, 16, 32, 64, and 64 from then on, whether the pod sleeps when it is parked, waits or is ready.
func TestWaits(t *testing.T) {
	for _, woken := range []bool{false, true} {
		b := made(t)
		b.push("a", 0)
		for i := range 100 {
			want := api.Waiting{Name: "a", Tries: i + 1, Until: 1000 + 64, Asleep: true}
			if i < 7 {
				want.Until = 1000 + []int{1, 2, 4, 8, 16, 32, 64}[i]
			}
			if got := parked(t, b, 1000); got != want {
				t.Fatalf("the try %d: %v, want %v", i+1, got, want)
			}
			if woken {
				b.wake()
			}
		}
	}
}

// P25.4: a pod is parked as well when it is ready as when it isn't; its Until hangs on this try alone, so it may go back.
func TestParkAtAnyTime(t *testing.T) {
	b := made(t)
	b.push("a", 0)
	for i, now := range []int{5, 6, 0, 100, 3, maxTime, 0, 7, maxTime - 1, 7} {
		if got := parked(t, b, now); got.Until != now+waits(i+1) || !got.Asleep {
			t.Errorf("Park at %d: %v", now, got)
		}
		if i%3 == 0 {
			b.wake()
		}
	}
}

// P25.4: a great number of tries waits for MaxWait, and no number is above MaxTime.
func TestManyTries(t *testing.T) {
	for _, tries := range []int{0, 1, 5, 6, 7, 30, 31, 32, 61, 62, 63, 64, 65, 66, 127, 128, 255, 256, 1 << 31, 1<<32 - 1, 1 << 32, 1<<32 + 1, maxTime - 2, maxTime - 1, maxTime} {
		b := madeOf(t, []api.Waiting{{Name: "a", Tries: tries}}, 1)
		for i := range 3 {
			want := min(tries+i+1, maxTime)
			if got := parked(t, b, 9); got.Tries != want || got.Until != 9+waits(want) {
				t.Errorf("behind %d tries: %v", tries, got)
			}
		}
	}
}

// P25.4: the latest Until is MaxTime + MaxWait; the queue that has it may be restored.
func TestParkAtTheEndOfTime(t *testing.T) {
	b := madeOf(t, []api.Waiting{{Name: "a", Tries: 6}}, 1)
	if got := parked(t, b, maxTime); got.Until != maxTime+maxWait {
		t.Errorf("%v", got)
	}
	b.wake()
	expectReady(t, b.q, maxTime, "", false)
	b.restored().check("restored")
	if got := parked(t, b, 0); got.Until != 64 {
		t.Errorf("%v", got)
	}
}

// P25.4, R2, R4: a pod that isn't in the queue ahead of what is no time; a refused Park changes nothing.
func TestParkRefused(t *testing.T) {
	b := made(t)
	b.push("a", 2)
	b.push("b", 2)
	b.park("b", 4)
	for _, now := range oddTimes {
		expect(t, "a name that isn't there", b.park("c", now), api.ErrNotQueued)
		if now < 0 || now > maxTime {
			expect(t, "no time", b.park("a", now), api.ErrMoment)
			expect(t, "no time", b.park("b", now), api.ErrMoment)
		}
		b.check("refused")
	}
	b.take("a")
	expect(t, "a name that is gone", b.park("a", 1), api.ErrNotQueued)
	b.check("refused")
	var none *queue.Queue
	expect(t, "nil, ahead of all", none.Park("a", -1), api.ErrNil)
}

// P25.4, P25.6: each pod keeps its place in the order, however often others and it are parked.
func TestParkKeepsTheOrder(t *testing.T) {
	b := filled(t, 12, 4)
	was := b.q.List()
	for i := range 60 {
		b.park(nth(i*5%12), i*37%50)
		if i%7 == 6 {
			b.wake()
		}
		b.check("parked")
		same := slices.EqualFunc(b.q.List(), was, func(x, y api.Waiting) bool {
			return x.Name == y.Name && x.Priority == y.Priority && x.Seq == y.Seq
		})
		if !same {
			t.Fatalf("%v, was %v", b.q.List(), was)
		}
	}
	b.drain()
}

// P25.5: no pod sleeps any more; all else stays, Until too.
func TestWake(t *testing.T) {
	for _, n := range []int{0, 1, 2, 5, 40} {
		b := filled(t, n, 3)
		for i := range n {
			for range i % 4 {
				b.park(nth(i), i)
			}
		}
		want := b.q.List()
		for i := range want {
			want[i].Asleep = false
		}
		for range 2 {
			b.wake()
			expectList(t, b.q, want...)
			b.check("woken")
		}
		b.drain()
		b.wake()
		b.check("nothing to wake")
	}
}
