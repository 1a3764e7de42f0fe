package queue_test

import (
	"testing"

	"berth/api"
)

// P25.3: a pod is ready from its Until on, if it is awake; asleep it never is.
func TestReadyAboutAnUntil(t *testing.T) {
	for _, at := range []int{0, 1, 10, maxTime - 65, maxTime - 2, maxTime - 1} {
		b := made(t)
		b.push("a", 0)
		b.park("a", at)
		for now := range 70 {
			expectReady(t, b.q, at+now, "", false)
		}
		b.check("asleep")
		b.wake()
		if at > 0 {
			expectReady(t, b.q, at-1, "", false)
		}
		expectReady(t, b.q, at, "", false)
		expectReady(t, b.q, at+1, "a", true)
		b.check("awake")
		for now := range 70 {
			b.ready(at + now)
		}
	}
}

// P25.3: who is ahead but not ready is passed over: asleep, or with an Until ahead.
func TestReadyPassesOver(t *testing.T) {
	b := madeOf(t, []api.Waiting{
		{Name: "e", Priority: 9, Seq: 4, Tries: 3, Until: 30},
		{Name: "d", Priority: 8, Seq: 3, Until: 5, Asleep: true},
		{Name: "c", Priority: 8, Seq: 6, Until: 20},
		{Name: "b", Priority: 0, Seq: 0, Until: 40},
		{Name: "a", Priority: 0, Seq: 1, Until: 10},
		{Name: "f", Priority: -7, Seq: 2, Until: 0, Asleep: true},
	}, 9)
	for now := range 50 {
		want := ""
		switch {
		case now >= 30:
			want = "e"
		case now >= 20:
			want = "c"
		case now >= 10:
			want = "a"
		}
		expectReady(t, b.q, now, want, want != "")
	}
	b.wake()
	for now := range 50 {
		want := "f"
		switch {
		case now >= 30:
			want = "e"
		case now >= 5:
			want = "d"
		}
		expectReady(t, b.q, now, want, true)
	}
	b.check("awake")
	b.drain()
}

// P25.3: no pod is ready at what is no time.
func TestReadyAtNoTime(t *testing.T) {
	b := made(t)
	b.push("a", 1)
	b.push("b", 1)
	for _, now := range oddTimes {
		if now < 0 || now > maxTime {
			expectReady(t, b.q, now, "", false)
		} else {
			expectReady(t, b.q, now, "a", true)
		}
	}
	b.check("asked")
}

// P25.3: a pod whose Until is above MaxTime is never ready any more, one whose Until is MaxTime is so just then.
func TestReadyAtTheEndOfTime(t *testing.T) {
	for _, until := range []int{maxTime - 1, maxTime, maxTime + 1, maxTime + 63, maxTime + 64} {
		b := madeOf(t, []api.Waiting{{Name: "a", Until: until}}, 1)
		expectReady(t, b.q, maxTime-2, "", false)
		if until <= maxTime {
			expectReady(t, b.q, until, "a", true)
			expectReady(t, b.q, maxTime, "a", true)
		} else {
			expectReady(t, b.q, maxTime, "", false)
			expectReady(t, b.q, until, "", false)
		}
		b.check("the end of time")
		b.drain()
	}
}
