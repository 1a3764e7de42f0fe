package merge

import (
	"cmp"
	"slices"
)

// set is what a set literal says of its term's worth: that it is one of the values, which rise; negated, that it is none of them.
type set[T cmp.Ordered] struct {
	values  []T
	negated bool
}

func (s set[T]) passes(value T) bool {
	_, is := slices.BinarySearch(s.values, value)
	return is != s.negated
}

// merged is the one set that says what all of the sets say of the values that fit. It is negated, if all of them are.
func merged[T cmp.Ordered](sets []set[T], fits func(T) bool) set[T] {
	first := slices.IndexFunc(sets, func(s set[T]) bool { return !s.negated })
	if first < 0 {
		return set[T]{union(sets, fits), true}
	}
	var values []T
	for _, value := range sets[first].values {
		fails := func(s set[T]) bool { return !s.passes(value) }
		if fits(value) && !slices.ContainsFunc(sets, fails) {
			values = append(values, value)
		}
	}
	return set[T]{values, false}
}

// union are the values of all sets that fit, rising.
func union[T cmp.Ordered](sets []set[T], fits func(T) bool) []T {
	var values []T
	for _, s := range sets {
		for _, value := range s.values {
			if fits(value) {
				values = append(values, value)
			}
		}
	}
	slices.Sort(values)
	return slices.Compact(values)
}
