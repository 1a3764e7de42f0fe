package code

import (
	"cmp"
	"slices"

	"berth/api"
)

// mostBytes is how many bytes a count may have: so many groups of seven bits fit into an int.
const mostBytes = 9

// reader goes through the bytes from the first on and never back: so the first fault that it meets is the one that is told.
type reader struct {
	bytes []byte
	next  int // the place of the byte that is looked at
	room  int // how many elements the pools that are still to come may have together
}

// giveUp is caught by Decode: whoever calls it does not go on.
func giveUp(code api.Errno, at int) {
	panic(&api.Fault{Code: code, At: at})
}

func (r *reader) program() api.Program {
	var p api.Program
	r.head()
	p.Depth = r.count(0, api.MaxDeep)
	p.Locals = r.count(0, api.MaxLocals)
	p.Texts = rising(r, r.poolSize(), r.text, cmp.Compare[string])
	p.Nums = rising(r, r.poolSize(), r.signed, cmp.Compare[int])
	p.Sets = rising(r, r.poolSize(), r.textSet, slices.Compare[[]string])
	p.NumSets = rising(r, r.poolSize(), r.numberSet, slices.Compare[[]int])
	for range r.count(0, api.MaxCode) {
		p.Code = append(p.Code, r.instruction())
	}
	if r.next < len(r.bytes) {
		giveUp(api.ErrCodeRest, r.next)
	}
	return p
}

func (r *reader) head() {
	for k := range len(head) {
		at := r.next
		if r.take() != head[k] {
			giveUp(api.ErrCodeMagic, at)
		}
	}
}

// take is the byte that is looked at; the next one is looked at from now on.
func (r *reader) take() byte {
	if r.next == len(r.bytes) {
		giveUp(api.ErrCodeCut, r.next)
	}
	r.next++
	return r.bytes[r.next-1]
}

func (r *reader) count(least, most int) int {
	first := r.next
	n := 0
	for k := range mostBytes {
		group := int(r.take())
		n |= (group & 127) << (7 * k)
		if group > 127 {
			continue
		}
		if group == 0 && k > 0 {
			giveUp(api.ErrCodeNumber, first)
		}
		if !within(n, least, most) {
			giveUp(api.ErrCodeLimit, first)
		}
		return n
	}
	giveUp(api.ErrCodeNumber, first)
	return 0
}

// poolSize is the number of elements of the next pool; it lessens the room for those behind it.
func (r *reader) poolSize() int {
	n := r.count(0, r.room)
	r.room -= n
	return n
}

// rising reads so many elements; it takes no room for them ahead, as the bytes may end long before.
func rising[T any](r *reader, size int, read func() T, compare func(T, T) int) []T {
	var list []T
	for k := range size {
		first := r.next
		element := read()
		if k > 0 && compare(list[k-1], element) >= 0 {
			giveUp(api.ErrCodePool, first)
		}
		list = append(list, element)
	}
	return list
}

func (r *reader) text() string {
	size := r.count(0, api.MaxText)
	if size > len(r.bytes)-r.next {
		giveUp(api.ErrCodeCut, len(r.bytes))
	}
	r.next += size
	return string(r.bytes[r.next-size : r.next])
}

func (r *reader) signed() int {
	n := r.count(0, 2*mostNumber)
	if n%2 == 1 {
		return -(n + 1) / 2
	}
	return n / 2
}

func (r *reader) textSet() []string {
	return rising(r, r.count(1, api.MaxParts), r.text, cmp.Compare[string])
}

func (r *reader) numberSet() []int {
	return rising(r, r.count(1, api.MaxParts), r.signed, cmp.Compare[int])
}

func (r *reader) instruction() api.Instr {
	at := r.next
	op := api.Op(r.take())
	if !within(int(op), int(api.OpNone), int(api.OpEnd)) {
		giveUp(api.ErrCodeOp, at)
	}
	var operands [3]int
	for k, used := range uses(op) {
		if used {
			operands[k] = r.count(0, mostOperand)
		}
	}
	return api.Instr{Op: op, A: operands[0], B: operands[1], C: operands[2]}
}
