package slots

import (
	"iter"
	"maps"
	"slices"
)

// Find: a name's slot and thing.
func (t *Table[T]) Find(name string) (int, T, bool) {
	if t != nil {
		if slot, there := t.slots[name]; there {
			return slot, t.rows[slot].value, true
		}
	}
	var none T
	return 0, none, false
}

// At: a slot's name and thing.
func (t *Table[T]) At(slot int) (string, T, bool) {
	if slot < 0 || slot >= t.Span() || t.rows[slot].name == "" {
		var none T
		return "", none, false
	}
	return t.rows[slot].name, t.rows[slot].value, true
}

// Len: how many names.
func (t *Table[T]) Len() int {
	if t == nil {
		return 0
	}
	return len(t.slots)
}

// Span: one beyond the highest slot in use.
func (t *Table[T]) Span() int {
	if t == nil {
		return 0
	}
	return len(t.rows)
}

// Names: the names, rising.
func (t *Table[T]) Names() []string {
	names := make([]string, 0, t.Len())
	for _, name := range t.All() {
		names = append(names, name)
	}
	slices.Sort(names)
	return names
}

// All: slots and names, rising by slot.
func (t *Table[T]) All() iter.Seq2[int, string] {
	// A copy, since the table may change ahead of the walk or under it.
	names := t.bySlot()
	return func(yield func(int, string) bool) {
		for slot, name := range names {
			if name != "" && !yield(slot, name) {
				return
			}
		}
	}
}

// Copy: a table of its own, each thing made anew. It is nil where of panics: there is no thing to put into it then.
func (t *Table[T]) Copy(of func(T) T) (made *Table[T]) {
	if t == nil {
		return nil
	}
	defer func() {
		if recover() != nil {
			made = nil
		}
	}()
	// The copy stands ahead of the first call of of, which may change t.
	made = &Table[T]{t.most, maps.Clone(t.slots), slices.Clone(t.rows), slices.Clone(t.taken)}
	if of != nil {
		made.renew(of)
	}
	return made
}

// renew puts what of answers in the place of each thing, from the lowest slot to the highest.
func (t *Table[T]) renew(of func(T) T) {
	for i := range t.rows {
		if t.rows[i].name != "" {
			t.rows[i].value = of(t.rows[i].value)
		}
	}
}

// bySlot is the name in each slot, empty where the slot is free.
func (t *Table[T]) bySlot() []string {
	names := make([]string, t.Span())
	for slot := range names {
		names[slot] = t.rows[slot].name
	}
	return names
}
