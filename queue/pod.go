package queue

import "berth/api"

// pod is one pod of a queue.
type pod api.Waiting

// ahead: whether it stands ahead of that one in the order of the queue.
func (p pod) ahead(of pod) bool {
	if p.Priority != of.Priority {
		return p.Priority > of.Priority
	}
	return p.Seq < of.Seq
}

// ready: whether it may be tried at this time.
func (p pod) ready(now int) bool { return !p.Asleep && p.Until <= now }

// park counts a try that failed at this time.
func (p *pod) park(now int) {
	p.Tries = min(p.Tries+1, api.MaxTime)
	p.Until = now + wait(p.Tries)
	p.Asleep = true
}

// wait is how long a pod waits behind its latest try of so many.
func wait(tries int) int {
	// a power above the 62nd would not fit into an int
	power := 1 << min(tries-1, 62)
	return min(power, api.MaxWait)
}

// isTime: whether the number is a time of the clock.
func isTime(n int) bool { return n >= 0 && n <= api.MaxTime }
