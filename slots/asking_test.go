package slots_test

import (
	"runtime"
	"slices"
	"strconv"
	"testing"
	"weak"

	"berth/slots"
)

// P5.2, R7: a nil table answers as one without names.
func TestNilTableAsked(t *testing.T) {
	var ints *slots.Table[int]
	check(t, "a nil table of ints", ints, newModel[int](0))
	var texts *slots.Table[string]
	check(t, "a nil table of texts", texts, newModel[string](0))
	var things *slots.Table[thing]
	check(t, "a nil table of structs", things, newModel[thing](0))
	if things.All() == nil {
		t.Error("All of a nil table is nil")
	}
}

// P5.2: what is not there has the zero value, though another name's value stood in the slot.
func TestNothingIsLeftOfADrop(t *testing.T) {
	n := 1
	b := made[thing](t, 5)
	for _, name := range []string{"a", "b", "c"} {
		b.put(name, thing{name, &n})
	}
	for _, name := range []string{"b", "c", "a"} {
		b.drop(name)
		b.check("without " + name)
	}
	b.put("d", thing{})
	b.check("a zero value in a slot that was free")
}

// putNew puts a pointer to new memory, that only the table keeps, and answers where to look for it.
func putNew(x *slots.Table[*[1000]int], name string) weak.Pointer[[1000]int] {
	p := new([1000]int)
	x.Put(name, p)
	return weak.Make(p)
}

// P5.2: a table keeps no value whose name is gone, or that another has taken the place of.
func TestNoValueIsKeptTooLong(t *testing.T) {
	x, _ := slots.New[*[1000]int](5)
	kept, midst, set, highest := putNew(x, "a"), putNew(x, "b"), putNew(x, "c"), putNew(x, "d")
	x.Drop("b")
	x.Set("c", nil)
	x.Drop("d")
	runtime.GC()
	if midst.Value() != nil || set.Value() != nil || highest.Value() != nil {
		t.Error("a value that is gone is kept")
	}
	if _, v, _ := x.Find("a"); v == nil || v != kept.Value() {
		t.Error("a value is gone whose name is there")
	}
}

// P5.2: a slot below 0, at Span and above it; any text as a name.
func TestEdgesOfAsking(t *testing.T) {
	for _, n := range []int{0, 1, 2, 63, 64, 65, 128, 150} {
		b := filled(t, 150, n)
		b.check("filled with " + strconv.Itoa(n))
		for i := 0; i < n; i += 3 {
			b.drop(nth(i))
		}
		b.check("with holes")
		b.set(nth(1), -5)
		b.check("set")
	}
}

// P5.2, R9: a question changes nothing.
func TestAskingChangesNothing(t *testing.T) {
	b := filled(t, 10, 7)
	b.drop("n3")
	for range 3 {
		b.check("asked again")
	}
	for _, name := range append(slices.Clone(wrongNames), "n3", "never") {
		b.x.Find(name)
	}
	for _, slot := range oddInts {
		b.x.At(slot)
	}
	if slot, _ := b.put("new", 1); slot != 3 {
		t.Errorf("Put behind many questions: %d", slot)
	}
	b.check("put")
}

// P5.5: who writes over a list of names, spare room included, changes neither the table nor another list, and no change of the table changes a list.
func TestNamesIsNewMemory(t *testing.T) {
	b := filled(t, 100, 70)
	b.drop("n5")
	first, second := b.x.Names(), b.x.Names()
	want := slices.Clone(first)
	walk := b.x.All()
	whole := first[:cap(first)]
	for i := range whole {
		whole[i] = "over"
	}
	b.check("the first list is written over")
	if !slices.Equal(second, want) {
		t.Errorf("the second list: %q", second)
	}
	b.put("new", 1)
	b.drop("n0")
	b.drop("n69")
	b.set("n1", 9)
	if !slices.Equal(second, want) {
		t.Errorf("the list behind changes: %q", second)
	}
	names := []string{}
	for _, name := range walk {
		names = append(names, name)
	}
	slices.Sort(names)
	if !slices.Equal(names, want) {
		t.Errorf("a walk behind changes: %q", names)
	}
	b.check("changed")
}

// P5.2: names are told by their bytes, each above the one ahead of it.
func TestNamesRise(t *testing.T) {
	b := made[int](t, 20)
	for i, name := range []string{"b", "\xff", "a", "B", "é", "ab", "a\x00", " ", "\x00", "aa", "z", "10", "9"} {
		b.put(name, i)
	}
	want := []string{"\x00", " ", "10", "9", "B", "a", "a\x00", "aa", "ab", "b", "z", "é", "\xff"}
	if got := b.x.Names(); !slices.Equal(got, want) {
		t.Errorf("Names: %q, want %q", got, want)
	}
}
