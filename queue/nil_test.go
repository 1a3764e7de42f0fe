package queue_test

import (
	"testing"

	"berth/api"
	"berth/queue"
)

// R7, P1: a nil queue answers as an empty one; what would change it is refused with ErrNil, ahead of all else, or does nothing.
func TestNil(t *testing.T) {
	var none *queue.Queue
	for range 2 {
		for _, name := range oddNames {
			for _, n := range append(oddInts, oddTimes...) {
				expect(t, "Push", none.Push(name, n), api.ErrNil)
				expect(t, "Park", none.Park(name, n), api.ErrNil)
				expectReady(t, none, n, "", false)
			}
			if w, e := none.Take(name); w != (api.Waiting{}) || e != api.ErrNil {
				t.Errorf("Take(%.20q): %v, %d", name, w, e)
			}
		}
		none.Wake()
		if none.Len() != 0 || none.Next() != 0 || len(none.List()) != 0 {
			t.Errorf("%d, %d, %v", none.Len(), none.Next(), none.List())
		}
	}
	q, e := queue.Restore(none.List(), none.Next())
	if q == nil || e != api.OK || q.Len() != 0 || q.Next() != 0 {
		t.Errorf("Restore of what a nil queue tells: %v, %d", q, e)
	}
	expect(t, "Push into the restored queue", q.Push("a", 0), api.OK)
}
