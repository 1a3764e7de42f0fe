package slots_test

import (
	"errors"
	"slices"
	"strconv"
	"testing"

	"berth/api"
	"berth/slots"
)

// holed is a table with free slots at its beginning and in its midst.
func holed(t *testing.T) both[int] {
	t.Helper()
	b := filled(t, 100, 9)
	for _, i := range []int{0, 4, 5} {
		b.drop(nth(i))
	}
	return b
}

// P5.4, R8: a walk may be walked again, broken off at each place, and walked within itself; who stops gets no more.
func TestWalks(t *testing.T) {
	b := holed(t)
	want := b.m.pairs()
	walk := b.x.All()
	for stop := range len(want) + 2 {
		calls := 0
		walk(func(slot int, name string) bool {
			if calls >= len(want) || want[calls] != (pair{slot, name}) {
				t.Errorf("broken off at %d: %d %q at step %d", stop, slot, name, calls)
			}
			calls++
			return calls < stop
		})
		if calls != max(1, min(stop, len(want))) {
			t.Errorf("broken off at %d: %d were given", stop, calls)
		}
		if got := walked(walk); !slices.Equal(got, want) {
			t.Errorf("walked again behind %d: %v", stop, got)
		}
		b.check("broken off")
	}
	steps := 0
	for slot, name := range walk {
		if inner := walked(walk); want[steps] != (pair{slot, name}) || !slices.Equal(inner, want) {
			t.Errorf("walked within itself: %d %q, %v", slot, name, inner)
		}
		steps++
	}
	if steps != len(want) {
		t.Errorf("walked within itself: %d steps", steps)
	}
}

// P5.4: a walk that is left early in one range goes on from the beginning in the next.
func TestWalkLeftEarly(t *testing.T) {
	walk := holed(t).x.All()
	for range 3 {
		for slot, name := range walk {
			if slot != 1 || name != "n1" {
				t.Errorf("the first step: %d %q", slot, name)
			}
			break
		}
	}
}

// P5.4: whatever is done ahead of a walk or in its midst, it gives the table as at its call.
func TestWalkTellsOfThen(t *testing.T) {
	b := holed(t)
	want := b.m.pairs()
	walk := b.x.All()
	b.drop("n1")
	b.put("new", 1)
	if got := walked(walk); !slices.Equal(got, want) {
		t.Errorf("changed ahead of the walk: %v, want %v", got, want)
	}
	for change := range 5 {
		b := holed(t)
		want, step := b.m.pairs(), 0
		walk := b.x.All()
		for slot, name := range walk {
			if step >= len(want) || want[step] != (pair{slot, name}) {
				t.Fatalf("change %d: step %d gives %d %q", change, step, slot, name)
			}
			switch step++; change {
			case 0:
				b.put("new"+strconv.Itoa(step), 1)
			case 1:
				b.drop(name)
			case 2:
				b.drop(want[len(want)-step].name)
			case 3:
				b.set(name, -1)
			case 4:
				b.drop(name)
				b.put("new"+name, 1)
			}
		}
		if got := walked(walk); step != len(want) || !slices.Equal(got, want) {
			t.Errorf("change %d: %d steps, then %v", change, step, got)
		}
		b.check("changed in the midst")
	}
}

// P5.4: a walk over nothing is no nil, gives nothing, and goes on giving nothing.
func TestWalkOverNothing(t *testing.T) {
	var none *slots.Table[int]
	empty := made[int](t, 5)
	emptied := filled(t, 5, 5)
	for i := range 5 {
		emptied.drop(nth(i))
	}
	for _, x := range []*slots.Table[int]{none, empty.x, emptied.x, made[int](t, 0).x} {
		walk := x.All()
		if walk == nil {
			t.Fatal("All is nil")
		}
		x.Put("late", 1)
		if got := walked(walk); len(got) != 0 {
			t.Errorf("a walk over nothing gives %v", got)
		}
	}
}

// P5.4: of is called once for each value, from the lowest slot to the highest.
func TestCopyCallsInOrder(t *testing.T) {
	b := holed(t)
	b.put("late", 7) // in slot 0, though it came last
	b.set("n2", 55)
	var got, want []int
	for _, p := range b.m.pairs() {
		want = append(want, b.m.has[p.name].value)
	}
	c := b.x.Copy(func(v int) int {
		got = append(got, v)
		return len(got) * 1000
	})
	if !slices.Equal(got, want) {
		t.Errorf("of was called for %v, want %v", got, want)
	}
	b.check("the table that was copied")
	made := b.m.copied()
	for i, p := range b.m.pairs() {
		made.has[p.name] = held[int]{p.slot, (i + 1) * 1000}
	}
	check(t, "the copy", c, made)
}

// P5.4: a copy has the same most, names and slots, free ones too, with a function and without one; what is done to one is not heard of by the other.
func TestCopyIsATableOfItsOwn(t *testing.T) {
	for _, of := range []func(int) int{nil, func(v int) int { return -v }} {
		for _, n := range []int{0, 1, 5, 63, 64, 65, 100, 130} {
			b := filled(t, n+2, n)
			for i := 1; i < n; i += 4 {
				b.drop(nth(i))
			}
			c := b.copied(of)
			d := c.copied(of) // a copy of a copy
			e := b.copied(of)
			all := []both[int]{b, c, d, e}
			for turn, x := range all {
				changeAll(x, turn)
				for i, y := range all {
					y.check("table " + strconv.Itoa(i) + " behind turn " + strconv.Itoa(turn))
				}
			}
		}
	}
}

// changeAll sets, drops and puts until the table is full, each turn in its own way.
func changeAll(b both[int], turn int) {
	b.t.Helper()
	for i := range b.m.most {
		b.set(nth(i), 10*turn+i)
	}
	for i := turn; i < b.m.most; i += 2 + turn {
		b.drop(nth(i))
	}
	for i := 0; ; i++ {
		if _, err := b.put("t"+strconv.Itoa(turn)+"."+strconv.Itoa(i), i); err != api.OK {
			break
		}
	}
	if b.x.Len() != b.m.most {
		b.t.Fatalf("Len %d, most %d", b.x.Len(), b.m.most)
	}
	b.drop("t" + strconv.Itoa(turn) + ".0")
}

// P5.4: with nil the values themselves, what they point to included; with a function what it answers.
func TestCopyOfPointers(t *testing.T) {
	x, _ := slots.New[*int](2)
	n := 1
	x.Put("a", &n)
	if _, v, _ := x.Copy(nil).Find("a"); v != &n {
		t.Error("Copy(nil) has another value")
	}
	c := x.Copy(func(p *int) *int { m := *p + 1; return &m })
	if _, v, _ := c.Find("a"); v == &n || *v != 2 {
		t.Error("Copy has the value itself")
	}
	if _, v, _ := x.Find("a"); v != &n || n != 1 {
		t.Error("the table that was copied has another value")
	}
}

// P5.4: Copy of a nil table is nil, and calls nothing.
func TestCopyOfNil(t *testing.T) {
	var none *slots.Table[int]
	if none.Copy(nil) != nil {
		t.Error("Copy(nil) of a nil table")
	}
	if none.Copy(func(int) int { t.Error("of was called"); return 0 }) != nil {
		t.Error("Copy of a nil table")
	}
}

// P5.4: a copy is of the table as at the call, though of changes it meanwhile.
func TestCopyWhileOfChanges(t *testing.T) {
	b := holed(t)
	then := b.m.copied()
	calls := 0
	c := b.x.Copy(func(v int) int {
		calls++
		b.drop("n8")
		b.drop("n1")
		b.put("new"+strconv.Itoa(calls), 1)
		b.set("n7", 99)
		return v
	})
	if calls != len(then.has) {
		t.Errorf("of was called %d times", calls)
	}
	check(t, "the copy", c, then)
	b.check("the table that was copied")
}

// P1: Copy doesn't panic where of does; it answers no table then, and the table is as it was.
func TestCopyWherePanics(t *testing.T) {
	b := holed(t)
	var nothing []int
	for name, of := range map[string]func(int) int{
		"a text":        func(int) int { panic("no") },
		"an error":      func(int) int { panic(errors.New("no")) },
		"nil":           func(int) int { panic(nil) },
		"out of bounds": func(v int) int { return nothing[v] },
		"the last one": func(v int) int {
			if v == 108 {
				panic("no")
			}
			return v
		},
	} {
		if c := b.x.Copy(of); c != nil {
			t.Errorf("Copy by a function that panics (%s): %v", name, c)
		}
		b.check("behind a panic with " + name)
	}
	if c := made[int](t, 3).x.Copy(func(int) int { panic("no") }); c == nil {
		t.Error("a copy without values calls nothing")
	}
}
