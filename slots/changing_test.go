package slots_test

import (
	"math"
	"math/rand/v2"
	"slices"
	"strconv"
	"strings"
	"testing"

	"berth/api"
	"berth/slots"
)

// P5.1, P5.2: the chapter's examples.
func TestExamples(t *testing.T) {
	x, err := slots.New[int](2)
	if x == nil || err != api.OK {
		t.Fatalf("New(2): %v, %d", x, err)
	}
	type answer struct {
		name string
		n, v int
		ok   bool
		err  api.Errno
	}
	put := func(name string, v int) answer { n, err := x.Put(name, v); return answer{n: n, err: err} }
	drop := func(name string) answer { n, err := x.Drop(name); return answer{n: n, err: err} }
	set := func(name string, v int) answer { return answer{err: x.Set(name, v)} }
	at := func(slot int) answer { name, v, ok := x.At(slot); return answer{name: name, v: v, ok: ok} }
	find := func(name string) answer { n, v, ok := x.Find(name); return answer{n: n, v: v, ok: ok} }
	span := func() answer { return answer{n: x.Span()} }
	is := func(what string, got, want answer) {
		t.Helper()
		if got != want {
			t.Errorf("%s: %v, want %v", what, got, want)
		}
	}
	is(`Put("b", 7)`, put("b", 7), answer{n: 0, err: api.OK})
	is(`Put("a", 8)`, put("a", 8), answer{n: 1, err: api.OK})
	is(`Put("b", 9)`, put("b", 9), answer{err: api.ErrSlotThere})
	is(`Put("c", 9)`, put("c", 9), answer{err: api.ErrSlotFull})
	if got := x.Names(); !slices.Equal(got, []string{"a", "b"}) {
		t.Errorf("Names: %q", got)
	}
	is(`Drop("b")`, drop("b"), answer{n: 0, err: api.OK})
	is("Span", span(), answer{n: 2})
	is(`Put("c", 5)`, put("c", 5), answer{n: 0, err: api.OK})
	if got := walked(x.All()); !slices.Equal(got, []pair{{0, "c"}, {1, "a"}}) {
		t.Errorf("All: %v", got)
	}
	is("At(0)", at(0), answer{name: "c", v: 5, ok: true})
	is("At(2)", at(2), answer{})
	is(`Find("b")`, find("b"), answer{})
	is(`Find("a")`, find("a"), answer{n: 1, v: 8, ok: true})
	is(`Set("b", 1)`, set("b", 1), answer{err: api.ErrSlotGone})
	is(`Put("", 1)`, put("", 1), answer{err: api.ErrSlotName})
	is(`Drop("a")`, drop("a"), answer{n: 1, err: api.OK})
	is("Span", span(), answer{n: 1})

	if x, err := slots.New[int](-1); x != nil || err != api.ErrSlotMost {
		t.Errorf("New(-1): %v, %d", x, err)
	}
	none := made[int](t, 0)
	for _, name := range []string{"a", "b", strings.Repeat("n", 63)} {
		if _, err := none.put(name, 1); err != api.ErrSlotFull {
			t.Errorf("Put(%q) into a table of most 0: %d", name, err)
		}
	}
}

// P5.1: which most New takes.
func TestNew(t *testing.T) {
	for _, most := range []int{math.MinInt, math.MinInt + 1, -1 << 32, -65536, -2, -1, 65537, 65538, 1 << 17, 1 << 32, 1<<32 + 1, math.MaxInt} {
		if x, err := slots.New[string](most); x != nil || err != api.ErrSlotMost {
			t.Errorf("New(%d): %v, %d, want nil, ErrSlotMost", most, x, err)
		}
	}
	for _, most := range []int{0, 1, 2, 63, 64, 65, 65535, 65536} {
		made[string](t, most).check("New(" + strconv.Itoa(most) + ")")
	}
	a, b := filled(t, 3, 2), made[int](t, 3)
	b.check("a second table")
	b.put("other", 1)
	a.check("the first table")
}

// P5.1: which texts are names, in each call; a refused call changes nothing.
func TestNamesThatAreNone(t *testing.T) {
	for _, most := range []int{0, 2, 3} { // none fits in, it is full, it isn't
		b := filled(t, most, min(most, 2))
		for _, name := range wrongNames {
			if _, err := b.put(name, 1); err != api.ErrSlotName {
				t.Errorf("Put(%q): %d", name, err)
			}
			b.set(name, 1)
			b.drop(name)
			b.check("a wrong name")
		}
	}
}

// P5.1: texts of 1 and of 63 bytes, and such that look odd, are names, told apart by their bytes.
func TestOddNames(t *testing.T) {
	b := made[string](t, 100)
	for _, name := range oddNames {
		if _, err := b.put(name, "of "+name); err != api.OK {
			t.Errorf("Put(%q): %d", name, err)
		}
		b.check("with " + name)
	}
	for _, name := range oddNames {
		b.set(name, "new "+name)
	}
	b.check("all set")
	for _, name := range oddNames {
		b.drop(name)
		b.check("without " + name)
	}
}

// P5.1: of several errors the first is answered, and none changes anything.
func TestOrderOfErrors(t *testing.T) {
	full := filled(t, 2, 2)
	for _, c := range []struct {
		name string
		put  api.Errno
		set  api.Errno
	}{
		{"", api.ErrSlotName, api.ErrSlotName},
		{strings.Repeat("n", 64), api.ErrSlotName, api.ErrSlotName},
		{"n0", api.ErrSlotThere, api.OK},
		{"n1", api.ErrSlotThere, api.OK},
		{"n2", api.ErrSlotFull, api.ErrSlotGone},
		{"n", api.ErrSlotFull, api.ErrSlotGone},
		{strings.Repeat("n", 63), api.ErrSlotFull, api.ErrSlotGone},
	} {
		if slot, err := full.x.Put(c.name, 7); slot != 0 || err != c.put {
			t.Errorf("Put(%q) into a full table: %d, %d, want 0, %d", c.name, slot, err, c.put)
		}
		full.check("Put into a full table")
		if c.set == api.OK {
			continue
		}
		if err := full.x.Set(c.name, 7); err != c.set {
			t.Errorf("Set(%q): %d, want %d", c.name, err, c.set)
		}
		if slot, err := full.x.Drop(c.name); slot != 0 || err != c.set {
			t.Errorf("Drop(%q): %d, %d, want 0, %d", c.name, slot, err, c.set)
		}
		full.check("Set and Drop refused")
	}
}

// P5.1, R7: a nil table refuses every change with ErrNil, ahead of what is wrong with the name.
func TestNilTableChanges(t *testing.T) {
	var none *slots.Table[int]
	for _, name := range slices.Concat(wrongNames, oddNames, []string{"a"}) {
		if slot, err := none.Put(name, 1); slot != 0 || err != api.ErrNil {
			t.Errorf("Put(%q): %d, %d", name, slot, err)
		}
		if err := none.Set(name, 1); err != api.ErrNil {
			t.Errorf("Set(%q): %d", name, err)
		}
		if slot, err := none.Drop(name); slot != 0 || err != api.ErrNil {
			t.Errorf("Drop(%q): %d, %d", name, slot, err)
		}
	}
	check(t, "a nil table", none, newModel[int](0))
}

// P5.3: the lowest free slot, behind a drop in the midst, at the ends and of several.
func TestLowestFreeSlot(t *testing.T) {
	b := filled(t, 300, 200)
	for _, i := range []int{100, 63, 64, 65, 0, 127, 128, 199} {
		b.drop(nth(i))
		b.check("dropped " + nth(i))
	}
	for _, want := range []int{0, 63, 64, 65, 100, 127, 128, 199, 200, 201} {
		if slot, err := b.put("new"+strconv.Itoa(want), want); slot != want || err != api.OK {
			t.Errorf("Put: %d, %d, want %d", slot, err, want)
		}
		b.check("a slot is taken again")
	}
}

// P5.2, P5.3: the highest slot dropped, with free ones under it and with none; the last name dropped.
func TestDropOfTheHighest(t *testing.T) {
	b := filled(t, 200, 130)
	for i := 60; i < 129; i++ {
		b.drop(nth(i))
		b.check("a hole")
	}
	if b.x.Span() != 130 {
		t.Errorf("Span with a hole: %d", b.x.Span())
	}
	b.drop(nth(129))
	if b.x.Span() != 60 {
		t.Errorf("Span behind the drop of the highest: %d", b.x.Span())
	}
	b.check("the highest dropped")
	for i := 59; i >= 0; i-- {
		b.drop(nth(i))
		if b.x.Span() != i || b.x.Len() != i {
			t.Errorf("Span %d, Len %d, want %d", b.x.Span(), b.x.Len(), i)
		}
		b.check("from above")
	}
	if slot, _ := b.put("again", 1); slot != 0 {
		t.Errorf("Put behind the last drop: %d", slot)
	}
	b.drop("again")
	b.check("empty again")
}

// P5.1, P5.3: a table of the greatest most, filled to the brim.
func TestGreatestTable(t *testing.T) {
	x, err := slots.New[int](65536)
	if err != api.OK {
		t.Fatalf("New(65536): %d", err)
	}
	for i := range 65536 {
		if slot, err := x.Put(nth(i), i); slot != i || err != api.OK {
			t.Fatalf("Put of the name %d: %d, %d", i, slot, err)
		}
	}
	if slot, err := x.Put("more", 1); slot != 0 || err != api.ErrSlotFull {
		t.Errorf("Put of one more: %d, %d", slot, err)
	}
	if slot, err := x.Put("n65535", 1); slot != 0 || err != api.ErrSlotThere {
		t.Errorf("Put of one that is there: %d, %d", slot, err)
	}
	if name, v, ok := x.At(65535); name != "n65535" || v != 65535 || !ok || x.Len() != 65536 || x.Span() != 65536 {
		t.Errorf("the highest: %q, %d, %v, Len %d, Span %d", name, v, ok, x.Len(), x.Span())
	}
	for _, i := range []int{65535, 40000, 64, 0} {
		if slot, err := x.Drop(nth(i)); slot != i || err != api.OK {
			t.Errorf("Drop of the name %d: %d, %d", i, slot, err)
		}
	}
	if x.Len() != 65532 || x.Span() != 65535 {
		t.Errorf("Len %d, Span %d", x.Len(), x.Span())
	}
	for _, want := range []int{0, 64, 40000, 65535} {
		if slot, err := x.Put("new"+strconv.Itoa(want), 1); slot != want || err != api.OK {
			t.Errorf("Put: %d, %d, want %d", slot, err, want)
		}
	}
	if _, err := x.Put("more", 1); err != api.ErrSlotFull {
		t.Errorf("Put of one more: %d", err)
	}
}

// P5.1, P5.2: a value is kept as it is handed in, what it points to included; Set puts another in its place.
func TestValuesAreKeptAsTheyAre(t *testing.T) {
	x, _ := slots.New[[]int](3)
	v := []int{1, 2}
	x.Put("a", v)
	v[0] = 9
	if _, got, _ := x.Find("a"); len(got) != 2 || &got[0] != &v[0] {
		t.Errorf("Find: %v", got)
	}
	if _, got, _ := x.At(0); len(got) != 2 || &got[0] != &v[0] {
		t.Errorf("At: %v", got)
	}
	x.Set("a", nil)
	if slot, got, ok := x.Find("a"); slot != 0 || got != nil || !ok {
		t.Errorf("Find behind Set: %d, %v, %v", slot, got, ok)
	}
	if v[0] != 9 || v[1] != 2 {
		t.Errorf("the value that was handed in: %v", v)
	}
}

// P5.1, P5.2, P5.3: every course of six puts and drops of four names, in tables of most 1 to 4.
func TestEveryShortCourse(t *testing.T) {
	names := []string{"d", "a", "c", "b"}
	const length = 6
	steps := 2 * len(names)
	courses := 1
	for range length {
		courses *= steps
	}
	for most := range 4 {
		for course := range courses {
			b := made[int](t, most+1)
			left := course
			for i := range length {
				if name := names[left%steps/2]; left%2 == 0 {
					b.put(name, i)
				} else {
					b.drop(name)
				}
				left /= steps
			}
			if course%17 == most { // all answers are held against the model, the whole table now and then
				b.check("course " + strconv.Itoa(course))
			}
		}
	}
}

// thing is a value with several fields.
type thing struct {
	text string
	n    *int
}

// P5.1, P5.2, P5.3: long courses, over tables of numbers, of texts and of structs.
func TestLongCourses(t *testing.T) {
	ns := make([]int, 10)
	for i, most := range []int{1, 5, 64, 65, 200} {
		seed := uint64(i)
		longCourse(made[int](t, most), seed, func(r *rand.Rand) int { return r.IntN(1000) })
		longCourse(made[string](t, most), seed, func(r *rand.Rand) string { return strconv.Itoa(r.IntN(1000)) })
		longCourse(made[thing](t, most), seed, func(r *rand.Rand) thing { return thing{nth(r.IntN(9)), &ns[r.IntN(10)]} })
	}
}

func longCourse[T comparable](b both[T], seed uint64, value func(*rand.Rand) T) {
	b.t.Helper()
	r := rand.New(rand.NewPCG(5, seed))
	var drops int // how much of ten is drops: it ebbs and flows, so that the table is now full, now empty
	for step := range 6000 {
		if step%300 == 0 {
			drops = 1 + r.IntN(9)
		}
		name := nth(r.IntN(b.m.most + b.m.most/4 + 2))
		if r.IntN(40) == 0 {
			name = wrongNames[r.IntN(len(wrongNames))]
		}
		switch {
		case r.IntN(6) == 0:
			b.set(name, value(r))
		case r.IntN(10) < drops:
			b.drop(name)
		default:
			b.put(name, value(r))
		}
		if b.x.Span() > b.m.peak {
			b.t.Fatalf("Span %d, though no more than %d names were there at one time", b.x.Span(), b.m.peak)
		}
		if step%37 == 0 {
			b.check("step " + strconv.Itoa(step))
		}
	}
	b.check("the end")
}

// P5.3: whatever comes and goes beside it, a name keeps its slot from its Put to its Drop, and no two share one.
func TestSlotsStay(t *testing.T) {
	r := rand.New(rand.NewPCG(5, 3))
	x, _ := slots.New[int](150)
	given := map[string]int{}
	for step := range 20000 {
		name := nth(r.IntN(200))
		if slot, err := x.Put(name, step); err == api.OK {
			given[name] = slot
		} else if slot, err = x.Drop(name); err == api.OK {
			if slot != given[name] {
				t.Fatalf("Drop(%q) tells the slot %d, Put told %d", name, slot, given[name])
			}
			delete(given, name)
		}
		if step%100 != 0 {
			continue
		}
		seen := map[int]string{}
		for name, want := range given {
			slot, _, ok := x.Find(name)
			if other, twice := seen[slot]; twice || slot != want || !ok {
				t.Fatalf("%q has the slot %d, %v, was given %d; %q has it too", name, slot, ok, want, other)
			}
			seen[slot] = name
		}
	}
}
