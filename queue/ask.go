package queue

import "berth/api"

// Ready: the first pod that is awake and whose wait is over.
func (q *Queue) Ready(now int) (string, bool) {
	if q == nil || !isTime(now) {
		return "", false
	}
	for _, p := range q.pods {
		if p.ready(now) {
			return p.Name, true
		}
	}
	return "", false
}

// Len: how many pods wait.
func (q *Queue) Len() int {
	if q == nil {
		return 0
	}
	return len(q.pods)
}

// Next: the number of the next arrival.
func (q *Queue) Next() int {
	if q == nil {
		return 0
	}
	return q.next
}

// List: the pods that wait, in order.
func (q *Queue) List() []api.Waiting {
	list := make([]api.Waiting, q.Len())
	for at := range list {
		list[at] = api.Waiting(q.pods[at])
	}
	return list
}
