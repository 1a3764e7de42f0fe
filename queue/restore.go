package queue

import "berth/api"

// Restore: the queue with these pods, whose next arrival has this number.
func Restore(list []api.Waiting, next int) (*Queue, api.Errno) {
	if !isTime(next) || len(list) > api.MaxPending {
		return nil, api.ErrWaiting
	}
	pods := make([]pod, len(list))
	for at, waiting := range list {
		pods[at] = pod(waiting)
	}
	if !lawful(pods, next) || !distinct(pods) || !ordered(pods) {
		return nil, api.ErrWaiting
	}
	return &Queue{pods, next}, api.OK
}

// lawful: whether the numbers of each pod, looked at alone, may be.
func lawful(pods []pod, next int) bool {
	for _, p := range pods {
		arrived := p.Seq >= 0 && p.Seq < next
		tried := p.Tries >= 0 && p.Tries <= api.MaxTime
		waits := p.Until >= 0 && p.Until <= api.MaxTime+api.MaxWait
		if !arrived || !tried || !waits {
			return false
		}
	}
	return true
}

// distinct: whether no two pods have one name, and no two one arrival.
func distinct(pods []pod) bool {
	names, arrivals := map[string]struct{}{}, map[int]struct{}{}
	for _, p := range pods {
		names[p.Name] = struct{}{}
		arrivals[p.Seq] = struct{}{}
	}
	return len(names) == len(pods) && len(arrivals) == len(pods)
}

// ordered: whether the pods stand in the order of the queue.
func ordered(pods []pod) bool {
	for at := 1; at < len(pods); at++ {
		if !pods[at-1].ahead(pods[at]) {
			return false
		}
	}
	return true
}
