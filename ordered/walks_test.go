package ordered_test

import (
	"math"
	"slices"
	"testing"

	"berth/api"
	"berth/bitset"
	"berth/ordered"
)

// stairs is an index with five numbers under one key, some of several slots, and another key beside it.
func stairs(t *testing.T) both {
	t.Helper()
	b := made(t, 70)
	for i, slot := range []int{69, 3, 64, 0, 63, 10, 5, 31} {
		b.put("cores", slot, []int{4, -2, math.MaxInt, 16, math.MinInt}[i%5])
		b.put("rank", slot, i)
	}
	return b
}

// P8.3, R8: a walk may be walked again, broken off at each place, and walked within itself; who stops gets no more.
func TestWalks(t *testing.T) {
	b := stairs(t)
	want := b.m.rows("cores")
	walk := b.x.Rows("cores")
	for stop := range len(want) + 2 {
		var got []row
		walk(func(n int, set *bitset.Set) bool {
			got = append(got, row{n, set.Members()})
			return len(got) < stop
		})
		if !sameRows(got, want[:max(1, min(stop, len(want)))]) {
			t.Errorf("broken off at %d: %v", stop, got)
		}
		if again := walked(t, walk, 70); !sameRows(again, want) {
			t.Errorf("walked again behind %d: %v", stop, again)
		}
	}
	steps := 0
	for n, set := range walk {
		inner := walked(t, walk, 70)
		if n != want[steps].n || !slices.Equal(set.Members(), want[steps].slots) || !sameRows(inner, want) {
			t.Errorf("walked within itself: %d %v, %v", n, set.Members(), inner)
		}
		steps++
	}
	if steps != len(want) {
		t.Errorf("walked within itself: %d steps", steps)
	}
	b.check("walked")
}

// P8.3: a walk that is left early in one range goes on from the beginning in the next; an inner walk that is left does not end the outer one.
func TestWalkLeftEarly(t *testing.T) {
	walk := stairs(t).x.Rows("cores")
	for range 3 {
		for n := range walk {
			if n != math.MinInt {
				t.Errorf("the first step: %d", n)
			}
			break
		}
	}
	steps := 0
	for range walk {
		for range walk {
			break
		}
		steps++
	}
	if steps != 5 {
		t.Errorf("the outer walk has %d steps", steps)
	}
}

// P8.3: two walks of one index, of other keys and of other times, side by side.
func TestWalksSideBySide(t *testing.T) {
	b := stairs(t)
	early, wantEarly := b.x.Rows("cores"), b.m.rows("cores")
	rank, wantRank := b.x.Rows("rank"), b.m.rows("rank")
	b.put("cores", 40, 5)
	b.del("cores", 69)
	late, wantLate := b.x.Rows("cores"), b.m.rows("cores")
	for range early {
		if !sameRows(walked(t, late, 70), wantLate) || !sameRows(walked(t, rank, 70), wantRank) {
			t.Error("a walk within another one")
		}
	}
	for range late {
		if !sameRows(walked(t, early, 70), wantEarly) {
			t.Error("an earlier walk within a later one")
		}
	}
}

// P8.3: whatever is done ahead of a walk or in its midst, it gives the index as at its call.
func TestWalkTellsOfThen(t *testing.T) {
	changes := []func(b both, step int, slots []int){
		func(b both, step int, _ []int) { b.put("cores", 40+step, 100*step) },
		func(b both, step int, _ []int) { b.put("cores", 40+step, -3-step) },
		func(b both, _ int, slots []int) { b.del("cores", slots[0]) },
		func(b both, _ int, _ []int) {
			for _, slot := range b.m.hasKey("cores") {
				b.del("cores", slot)
			}
		},
		func(b both, step int, slots []int) {
			for _, slot := range slots {
				b.del("cores", slot)
				b.put("cores", slot, 1000-step)
			}
		},
		func(b both, _ int, _ []int) { b.del("cores", b.m.find("cores", api.CmpGe, -2)[0]) },
	}
	for i, change := range changes {
		b := stairs(t)
		want := b.m.rows("cores")
		walk := b.x.Rows("cores")
		change(b, 0, []int{69})
		if got := walked(t, walk, 70); !sameRows(got, want) {
			t.Errorf("change %d ahead of the walk: %v, want %v", i, got, want)
		}
		b.check("changed ahead of the walk")
	}
	for i, change := range changes[:5] {
		b := stairs(t)
		want := b.m.rows("cores")
		walk := b.x.Rows("cores")
		var got []row
		for n, set := range walk {
			got = append(got, row{n, set.Members()})
			change(b, len(got), set.Members())
		}
		if again := walked(t, walk, 70); !sameRows(got, want) || !sameRows(again, want) {
			t.Errorf("change %d in the midst: %v, then %v, want %v", i, got, again, want)
		}
		b.check("changed in the midst")
	}
}

// P8.3, P8.5: each set that a walk gives is a new one, of this walk and of the next: who writes into it changes nothing else.
func TestWalkedSetsAreNew(t *testing.T) {
	b := stairs(t)
	want := b.m.rows("cores")
	walk := b.x.Rows("cores")
	var given []*bitset.Set
	for round := range 3 {
		step := 0
		for n, set := range walk {
			if slices.Contains(given, set) {
				t.Fatalf("round %d: the set of %d was given before", round, n)
			}
			if n != want[step].n || !slices.Equal(set.Members(), want[step].slots) || set.Size() != 70 {
				t.Errorf("round %d: step %d gives %d with %v of %d", round, step, n, set.Members(), set.Size())
			}
			given = append(given, set)
			fill(set, round)
			step++
		}
		b.check("the sets of a walk are overwritten")
	}
	held := walked(t, walk, 70)
	b.del("cores", 69)
	b.put("cores", 1, 4)
	if !sameRows(held, want) {
		t.Errorf("what was walked has become %v", held)
	}
}

// P8.3: a walk over nothing is no nil, gives nothing, and goes on giving nothing.
func TestWalkOverNothing(t *testing.T) {
	var none *ordered.Index
	emptied := stairs(t)
	for _, slot := range emptied.m.hasKey("cores") {
		emptied.del("cores", slot)
	}
	for _, x := range []*ordered.Index{none, made(t, 70).x, emptied.x, made(t, 0).x} {
		for _, key := range []string{"", "cores", "none"} {
			walk := x.Rows(key)
			if walk == nil {
				t.Fatal("Rows is nil")
			}
			x.Put(key, 1, 1)
			if got := walked(t, walk, 70); len(got) != 0 {
				t.Errorf("a walk over nothing gives %v", got)
			}
			x.Del(key, 1)
		}
	}
}
