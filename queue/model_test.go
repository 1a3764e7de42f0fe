package queue_test

import (
	"math"
	"slices"
	"strconv"
	"strings"
	"testing"

	"berth/api"
	"berth/queue"
)

// The limits as the chapter writes them.
const (
	maxTime = 1 << 40
	maxWait = 64
	most    = 2048
)

// model is a queue by its meaning alone: the pods as they came, and each answer reckoned anew.
type model struct {
	pods []api.Waiting
	next int
}

func (m *model) copied() *model { return &model{slices.Clone(m.pods), m.next} }

func (m *model) find(name string) *api.Waiting {
	for i := range m.pods {
		if m.pods[i].Name == name {
			return &m.pods[i]
		}
	}
	return nil
}

func (m *model) push(name string, priority int) api.Errno {
	switch {
	case m.find(name) != nil:
		return api.ErrQueued
	case len(m.pods) == most:
		return api.ErrQueueFull
	case m.next == maxTime:
		return api.ErrArrivals
	}
	m.pods = append(m.pods, api.Waiting{Name: name, Priority: priority, Seq: m.next})
	m.next++
	return api.OK
}

func (m *model) take(name string) (api.Waiting, api.Errno) {
	w := m.find(name)
	if w == nil {
		return api.Waiting{}, api.ErrNotQueued
	}
	told := *w
	m.pods = slices.DeleteFunc(m.pods, func(w api.Waiting) bool { return w.Name == name })
	return told, api.OK
}

func (m *model) park(name string, now int) api.Errno {
	w := m.find(name)
	switch {
	case w == nil:
		return api.ErrNotQueued
	case now < 0 || now > maxTime:
		return api.ErrMoment
	}
	if w.Tries < maxTime {
		w.Tries++
	}
	w.Asleep, w.Until = true, now+waits(w.Tries)
	return api.OK
}

// waits is the wait behind so many tries, as the chapter counts it up.
func waits(tries int) int {
	for i, n := range []int{1, 2, 4, 8, 16, 32} {
		if tries == i+1 {
			return n
		}
	}
	return maxWait
}

func (m *model) wake() {
	for i := range m.pods {
		m.pods[i].Asleep = false
	}
}

// isAhead is the order of the queue, as the chapter says it.
func isAhead(a, b api.Waiting) bool {
	return a.Priority > b.Priority || a.Priority == b.Priority && a.Seq < b.Seq
}

// list puts each pod behind as many places as pods stand ahead of it.
func (m *model) list() []api.Waiting {
	out := make([]api.Waiting, len(m.pods))
	for _, w := range m.pods {
		place := 0
		for _, other := range m.pods {
			if isAhead(other, w) {
				place++
			}
		}
		out[place] = w
	}
	return out
}

// ready is the pod ahead of all others that are ready.
func (m *model) ready(now int) (string, bool) {
	if now < 0 || now > maxTime {
		return "", false
	}
	var first *api.Waiting
	for i, w := range m.pods {
		if !w.Asleep && w.Until <= now && (first == nil || isAhead(w, *first)) {
			first = &m.pods[i]
		}
	}
	if first == nil {
		return "", false
	}
	return first.Name, true
}

// oddTimes are times at the edges, and numbers that are none.
var oddTimes = []int{math.MinInt, math.MinInt + 1, -maxTime, -64, -1, 0, 1, maxTime - 64, maxTime - 1, maxTime, maxTime + 1, maxTime + 63, maxTime + 64, maxTime + 65, 1 << 62, math.MaxInt}

// oddInts are priorities: any int is one.
var oddInts = []int{0, 1, -1, 5, -5, 1000000, 1000001, -1000000, -1000001, 1 << 31, -1 << 31, 1<<31 - 1, 1 << 32, 1 << 62, -1 << 62, math.MaxInt, math.MaxInt - 1, math.MinInt, math.MinInt + 1}

// oddNames are names: any text is one, and its bytes tell it from another.
var oddNames = []string{"", " ", "\x00", "\x00\x00", "a", "A", "a ", "a\x00", "\n", "\xff", "\xff\xfe", "é", "e\u0301", "-", "/", "1", "01", strings.Repeat("n", 63), strings.Repeat("n", 64), strings.Repeat("n", 100000), strings.Repeat("n", 99999) + "m"}

// times are the times at which a queue's answers may be others: at each Until and beside it, and at the edges.
func (m *model) times() []int {
	out := slices.Clone(oddTimes)
	for _, w := range m.pods {
		out = append(out, w.Until-1, w.Until, w.Until+1)
	}
	slices.Sort(out)
	return slices.Compact(out)
}

// both is a queue and what it must be like; each change is made to both.
type both struct {
	t *testing.T
	q *queue.Queue
	m *model
}

func made(t *testing.T) both {
	t.Helper()
	q := queue.New()
	if q == nil {
		t.Fatal("New: nil")
	}
	return both{t, q, &model{}}
}

// madeOf restores a queue of a list that may be.
func madeOf(t *testing.T, list []api.Waiting, next int) both {
	t.Helper()
	q, e := queue.Restore(list, next)
	if q == nil || e != api.OK {
		t.Fatalf("Restore(%v, %d): %v, %d", list, next, q, e)
	}
	b := both{t, q, &model{slices.Clone(list), next}}
	b.check("restored")
	return b
}

// restored is a queue made of what this one tells, beside a copy of the model.
func (b both) restored() both {
	b.t.Helper()
	q, e := queue.Restore(b.q.List(), b.q.Next())
	if q == nil || e != api.OK {
		b.t.Fatalf("Restore(%v, %d): %v, %d", b.q.List(), b.q.Next(), q, e)
	}
	return both{b.t, q, b.m.copied()}
}

func (b both) push(name string, priority int) api.Errno {
	b.t.Helper()
	got, want := b.q.Push(name, priority), b.m.push(name, priority)
	if got != want {
		b.t.Fatalf("Push(%.20q, %d): %d, want %d", name, priority, got, want)
	}
	return got
}

func (b both) take(name string) (api.Waiting, api.Errno) {
	b.t.Helper()
	got, e := b.q.Take(name)
	if want, code := b.m.take(name); got != want || e != code {
		b.t.Fatalf("Take(%.20q): %v, %d, want %v, %d", name, got, e, want, code)
	}
	return got, e
}

func (b both) park(name string, now int) api.Errno {
	b.t.Helper()
	got, want := b.q.Park(name, now), b.m.park(name, now)
	if got != want {
		b.t.Fatalf("Park(%.20q, %d): %d, want %d", name, now, got, want)
	}
	return got
}

func (b both) wake() {
	b.q.Wake()
	b.m.wake()
}

func (b both) ready(now int) (string, bool) {
	b.t.Helper()
	got, ok := b.q.Ready(now)
	if want, is := b.m.ready(now); got != want || ok != is {
		b.t.Fatalf("Ready(%d): %q, %v, want %q, %v", now, got, ok, want, is)
	}
	return got, ok
}

// checkList holds what the queue keeps against the model.
func (b both) checkList(what string) {
	b.t.Helper()
	if b.q.Len() != len(b.m.pods) || b.q.Next() != b.m.next {
		b.t.Fatalf("%s: Len %d, Next %d, want %d, %d", what, b.q.Len(), b.q.Next(), len(b.m.pods), b.m.next)
	}
	if got, want := b.q.List(), b.m.list(); !slices.Equal(got, want) {
		b.t.Fatalf("%s: List %v, want %v", what, got, want)
	}
}

// check holds all that the queue tells against the model, and that asking changes nothing.
func (b both) check(what string) {
	b.t.Helper()
	b.checkList(what)
	for _, now := range b.m.times() {
		b.ready(now)
	}
	b.checkList(what + ", asked")
}

// drain takes the pods one by one: the ready ones as Ready tells them, then those for which no time comes.
func (b both) drain() {
	b.t.Helper()
	b.wake()
	for _, w := range b.q.List() {
		name, ok := b.ready(maxTime)
		if w.Until <= maxTime && (name != w.Name || !ok) {
			b.t.Fatalf("Ready: %q, %v, ahead in the list: %q", name, ok, w.Name)
		}
		if got, _ := b.take(w.Name); got != w {
			b.t.Fatalf("Take: %v, in the list %v", got, w)
		}
	}
	b.check("drained")
}

// nth is the name of the pod i.
func nth(i int) string { return "n" + strconv.Itoa(i) }

// filled pushes n pods, n0 on, with priorities that go round.
func filled(t *testing.T, n, priorities int) both {
	t.Helper()
	b := made(t)
	for i := range n {
		if e := b.push(nth(i), i*7%priorities-priorities/2); e != api.OK {
			t.Fatalf("Push of the pod %d: %d", i, e)
		}
	}
	return b
}
