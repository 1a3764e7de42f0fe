package code_test

import (
	"math/rand/v2"
	"slices"

	"berth/api"
)

// chance makes programs and bytes of a seed.
type chance struct{ *rand.Rand }

func newChance(seed uint64) chance { return chance{rand.New(rand.NewPCG(seed, 20))} }

func one[T any](r chance, list ...T) T { return list[r.IntN(len(list))] }

func (r chance) text() string {
	if r.IntN(4) == 0 {
		return one(r, edgeTexts()...)
	}
	out := make([]byte, r.IntN(4))
	for i := range out {
		out[i] = one(r, byte('a'), 'b', 'c', 0, 0x7f, 0x80, 0xff, byte(r.IntN(256)))
	}
	return string(out)
}

func (r chance) num() int {
	switch r.IntN(3) {
	case 0:
		return one(r, edgeNums()...)
	case 1:
		return r.IntN(9) - 4
	}
	return int(r.Int64N(2*far+1)) - far
}

// some makes so many elements at most, rising.
func some[T any](most int, each func() T, compare func(a, b T) int) []T {
	var out []T
	for range most {
		out = append(out, each())
	}
	slices.SortFunc(out, compare)
	return slices.CompactFunc(out, func(a, b T) bool { return compare(a, b) == 0 })
}

// order makes a comparison of an order.
func order[T any](under func(a, b T) bool) func(a, b T) int {
	return func(a, b T) int {
		if under(a, b) {
			return -1
		} else if under(b, a) {
			return 1
		}
		return 0
	}
}

func (r chance) instr() api.Instr {
	i := api.Instr{Op: api.Op(1 + r.IntN(36))}
	for k, operand := range []*int{&i.A, &i.B, &i.C} {
		if operands[i.Op][k] != '.' {
			*operand = one(r, 0, 1, 2, 127, 128, 129, 16383, 16384, 65535, r.IntN(65536))
		}
	}
	return i
}

// program makes a program that has a form, with lists of at most so many elements.
func (r chance) program(most int) api.Program {
	size := func() int { return one(r, 0, 1, r.IntN(most+1)) }
	p := api.Program{Depth: r.IntN(129), Locals: r.IntN(1025)}
	p.Texts = some(size(), r.text, order(lessBytes))
	p.Nums = some(size(), r.num, order(lessNum))
	p.Sets = some(size(), func() []string { return some(1+r.IntN(3), r.text, order(lessBytes)) }, order(lessTexts))
	p.NumSets = some(size(), func() []int { return some(1+r.IntN(3), r.num, order(lessNum)) }, order(lessNums))
	for range size() {
		p.Code = append(p.Code, r.instr())
	}
	return p
}

// disturb changes one thing of a program: it may lose its form.
func (r chance) disturb(p *api.Program) {
	text := func(list []string) {
		if len(list) > 0 {
			list[r.IntN(len(list))] = one(r, r.text(), "", string(make([]byte, 120+r.IntN(20))))
		}
	}
	num := func(list []int) {
		if len(list) > 0 {
			list[r.IntN(len(list))] = one(r, r.num(), far+1, -far-1, int(r.Uint64()))
		}
	}
	switch r.IntN(9) {
	case 0:
		p.Depth = one(r, -1, 0, 128, 129, int(r.Uint64()))
	case 1:
		p.Locals = one(r, -1, 0, 1024, 1025, int(r.Uint64()))
	case 2:
		text(p.Texts)
	case 3:
		num(p.Nums)
	case 4:
		if len(p.Sets) > 0 {
			text(one(r, p.Sets...))
		}
	case 5:
		if len(p.NumSets) > 0 {
			num(one(r, p.NumSets...))
		}
	case 6:
		if len(p.Sets) > 0 {
			p.Sets[r.IntN(len(p.Sets))] = one(r, nil, []string{r.text()}, one(r, p.Sets...))
		}
	case 7:
		if len(p.NumSets) > 0 {
			p.NumSets[r.IntN(len(p.NumSets))] = one(r, nil, []int{r.num()}, one(r, p.NumSets...))
		}
	case 8:
		if len(p.Code) > 0 {
			i := &p.Code[r.IntN(len(p.Code))]
			switch r.IntN(4) {
			case 0:
				i.Op = one(r, -1, 0, 1, 36, 37, api.Op(r.IntN(40)))
			default:
				*one(r, &i.A, &i.B, &i.C) = one(r, 0, 1, -1, 65535, 65536, int(r.Uint64()))
			}
		}
	}
}

// turn changes bytes at one place: one turned, taken out, put in or doubled, a stretch taken out or doubled, or what is behind cut off.
func (r chance) turn(b []byte) []byte {
	if len(b) == 0 {
		return []byte{byte(r.IntN(256))}
	}
	at := r.IntN(len(b))
	to := min(at+1+r.IntN(6), len(b))
	x := one(r, byte(r.IntN(256)), 0, 1, 2, 0x7f, 0x80, 0x81, 0xff, b[at]+1, b[at]-1, b[at]^0x80)
	switch r.IntN(7) {
	case 0:
		return slices.Delete(slices.Clone(b), at, at+1)
	case 1:
		return slices.Insert(slices.Clone(b), at, x)
	case 2:
		return slices.Delete(slices.Clone(b), at, to)
	case 3:
		return slices.Insert(slices.Clone(b), at, slices.Clone(b[at:to])...)
	case 4:
		return slices.Clone(b[:at])
	}
	out := slices.Clone(b)
	out[at] = x
	return out
}
