package queue_test

import (
	"math/rand/v2"
	"strconv"
	"testing"
)

// call is one call of a script.
type call func(b both)

// calls are the calls of short scripts, in which two pods meet.
var calls = []call{
	func(b both) { b.push("a", 0) },
	func(b both) { b.push("b", 0) },
	func(b both) { b.push("b", 1) },
	func(b both) { b.take("a") },
	func(b both) { b.take("b") },
	func(b both) { b.park("a", 3) },
	func(b both) { b.park("b", 0) },
	func(b both) { b.wake() },
}

// script is the calls of the script with this number, five of them.
func script(number int) []call {
	var out []call
	for range 5 {
		out = append(out, calls[number%len(calls)])
		number /= len(calls)
	}
	return out
}

// P25.1 to P25.7: every script of five calls of a few, one queue going on from the first call to the last, and others restored behind each of them: all of them answer alike.
func TestShortScripts(t *testing.T) {
	for number := range 8 * 8 * 8 * 8 * 8 {
		all := []both{made(t)}
		for _, c := range script(number) {
			for _, b := range all {
				c(b)
			}
			all = append(all, all[0].restored())
		}
		for _, b := range all {
			b.check("the script " + strconv.Itoa(number))
		}
		if number%97 == 0 {
			for _, b := range all {
				b.drain()
			}
		}
	}
}

// chance picks what a long script does.
type chance struct{ *rand.Rand }

func newChance(seed uint64) chance { return chance{rand.New(rand.NewPCG(seed, 25))} }

func one[T any](r chance, of ...T) T { return of[r.IntN(len(of))] }

func (r chance) name() string {
	if r.IntN(10) == 0 {
		return one(r, oddNames...)
	}
	return nth(r.IntN(25))
}

func (r chance) priority() int {
	if r.IntN(10) == 0 {
		return one(r, oddInts...)
	}
	return r.IntN(5) - 2
}

func (r chance) time(b both) int {
	switch r.IntN(10) {
	case 0:
		return one(r, oddTimes...)
	case 1:
		return one(r, b.m.times()...)
	}
	return r.IntN(150)
}

// step makes one call by chance.
func (r chance) step(b both) {
	switch r.IntN(12) {
	case 0, 1, 2, 3:
		b.push(r.name(), r.priority())
	case 4, 5:
		b.take(r.name())
	case 6, 7, 8:
		b.park(r.name(), r.time(b))
	case 9:
		b.wake()
	case 10:
		b.ready(r.time(b))
	case 11: // what a scheduler does: the pod that is ready goes, or is parked
		now := r.time(b)
		if name, ok := b.ready(now); ok && r.IntN(2) == 0 {
			b.take(name)
		} else if ok {
			b.park(name, now)
		}
	}
}

// P25.1 to P25.7, R4, R9: long scripts over several queues, call by call against the model; now and then a queue goes on as the one that is restored of it.
func TestLongScripts(t *testing.T) {
	for seed := range uint64(12) {
		r := newChance(seed)
		all := []both{made(t), made(t), madeOf(t, some(), maxTime-30)}
		for range 1500 {
			at := r.IntN(len(all))
			r.step(all[at])
			all[at].check("a long script")
			if r.IntN(20) == 0 {
				all[at] = all[at].restored()
				all[at].check("restored")
			}
		}
		for _, b := range all {
			b.drain()
		}
	}
}

// P25.6, P25.7: a great queue: it fills up, is parked and woken, and empties again.
func TestGreatScripts(t *testing.T) {
	r := newChance(77)
	b := filled(t, most, 9)
	for range 3000 {
		name := nth(r.IntN(most + 50))
		switch r.IntN(4) {
		case 0:
			b.take(name)
		case 1:
			b.push(name, r.priority())
		default:
			b.park(name, r.IntN(1000))
		}
	}
	b.checkList("great")
	b.restored().checkList("restored")
	b.wake()
	for now := range 1100 {
		b.ready(now)
	}
	b.drain()
}
