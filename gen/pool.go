package gen

import (
	"cmp"
	"slices"
)

// pool is one of the lists of a program's constants while it is gathered.
type pool[T any] struct {
	order func(x, y T) int
	named []naming[T]
}

// naming is a constant that an instruction names. Its place hangs on all others, so the operand is put in when these are known.
type naming[T any] struct {
	constant T
	put      func(place int)
}

func newPool[T cmp.Ordered]() pool[T] { return pool[T]{order: cmp.Compare[T]} }

func newPoolOfSets[T cmp.Ordered]() pool[[]T] { return pool[[]T]{order: slices.Compare[[]T]} }

func (p *pool[T]) name(constant T, put func(place int)) {
	p.named = append(p.named, naming[T]{constant, put})
}

// settled puts in the operand of each naming and answers the constants in their order, each once.
func (p *pool[T]) settled() []T {
	slices.SortFunc(p.named, func(x, y naming[T]) int { return p.order(x.constant, y.constant) })
	var list []T
	for _, n := range p.named {
		if len(list) == 0 || p.order(list[len(list)-1], n.constant) != 0 {
			list = append(list, n.constant)
		}
		n.put(len(list) - 1)
	}
	return list
}

// ownSets are the same sets, none of them in the memory of another list.
func ownSets[T any](sets [][]T) [][]T {
	for at, set := range sets {
		sets[at] = slices.Clone(set)
	}
	return sets
}
