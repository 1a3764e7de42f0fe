package vm

import "berth/bitset"

// cell is a value on the stack, or what a local holds. The audit has followed the kinds of all cells: each instruction looks at the fields of the kind that it takes. What a cell holds is never written into, so that cells may share it.
type cell struct {
	u     int // of what the set is
	set   *bitset.Set
	known bool // whether the text or the number is there
	text  string
	num   int
	texts []string
	nums  []int
}

// stack has the last cell on top, and knows how many cells it held at most.
type stack struct {
	cells []cell
	most  int
}

func (s *stack) push(c cell) {
	s.cells = append(s.cells, c)
	s.most = max(s.most, len(s.cells))
}

func (s *stack) pop() cell {
	c := s.top()
	s.cells = s.cells[:len(s.cells)-1]
	return c
}

func (s *stack) top() cell { return s.cells[len(s.cells)-1] }
