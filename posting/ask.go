package posting

import (
	"maps"
	"slices"

	"berth/api"
	"berth/bitset"
)

// Live: the live slots.
func (x *Index) Live() *bitset.Set { return x.slots().Clone() }

// Of: a slot's labels.
func (x *Index) Of(slot int) ([]api.Label, bool) {
	if !x.slots().Has(slot) {
		return nil, false
	}
	return slices.Clone(x.lists[slot]), true
}

// With: the slots with this value of a key.
func (x *Index) With(key, value string) *bitset.Set {
	out := x.none()
	out.OrWith(x.values(key)[value])
	return out
}

// In: the slots with one of these values of a key.
func (x *Index) In(key string, values []string) *bitset.Set {
	out, sets := x.none(), x.values(key)
	for _, value := range values {
		out.OrWith(sets[value])
	}
	return out
}

// Has: the slots that have a key.
func (x *Index) Has(key string) *bitset.Set {
	out := x.none()
	for _, set := range x.values(key) {
		out.OrWith(set)
	}
	return out
}

// Keys: the keys that some slot has, rising.
func (x *Index) Keys() []string {
	if x == nil {
		return nil
	}
	return slices.Sorted(maps.Keys(x.under))
}

// Values: the values that some slot has under a key, rising.
func (x *Index) Values(key string) []string {
	return slices.Sorted(maps.Keys(x.values(key)))
}

// Count: how many slots have this value of a key.
func (x *Index) Count(key, value string) int { return x.values(key)[value].Count() }

// Same: do both hold the same slots with the same labels?
func Same(a, b *Index) bool {
	if !bitset.Equal(a.slots(), b.slots()) {
		return false
	}
	for slot := range a.slots().All() {
		if !slices.Equal(a.lists[slot], b.lists[slot]) {
			return false
		}
	}
	return true
}

// slots is the live slots, also those of a nil index: a nil set answers as one of size 0. It is not to be handed out.
func (x *Index) slots() *bitset.Set {
	if x == nil {
		return nil
	}
	return x.live
}

// values is the slots by value of a key, also of a nil index. A value that no slot has gives a nil set, which is read as an empty one.
func (x *Index) values(key string) map[string]*bitset.Set {
	if x == nil {
		return nil
	}
	return x.under[key]
}

// none is an empty set of the index's size.
func (x *Index) none() *bitset.Set {
	set, _ := bitset.New(x.slots().Size()) // no index has a size that is refused
	return set
}
