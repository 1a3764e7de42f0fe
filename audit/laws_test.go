package audit_test

import (
	"slices"
	"strings"
	"testing"

	"berth/api"
	"berth/audit"
)

// P21.4: what is accepted stays accepted, with the same shape and stacks, with a greater Depth, with more Locals and with anything else in the pools.
func TestMoreIsAcceptedToo(t *testing.T) {
	r := newChance(4)
	for range 1500 {
		p := r.program(one(r, 2, 5, 20, 50))
		want, err := audit.Program(p)
		if err != nil {
			t.Fatal(told(p), err)
		}
		stacks, _ := audit.Stacks(p)
		for range 4 {
			x := p
			x.Depth = one(r, x.Depth, x.Depth+1, 128, x.Depth+r.IntN(129-x.Depth))
			x.Locals = one(r, x.Locals, x.Locals+1, 1024, x.Locals+r.IntN(1025-x.Locals))
			x.Texts, x.Nums, x.Sets, x.NumSets = r.others(len(x.Texts), len(x.Nums), len(x.Sets), len(x.NumSets))
			got, err := audit.Program(x)
			again, wrong := audit.Stacks(x)
			if err != nil || wrong != nil || got != want || !slices.EqualFunc(again, stacks, slices.Equal) {
				t.Fatalf("%s: %v, %v, %v, %v, want %v", told(x), got, err, again, wrong, want)
			}
		}
	}
}

// others are pools of so many elements, with or without a form.
func (r chance) others(texts, nums, sets, numSets int) ([]string, []int, [][]string, [][]int) {
	text := func() string { return one(r, "", "b", "a", "\xff", strings.Repeat("x", 128)) }
	num := func() int { return one(r, 0, 0, -1, int(r.Uint64())) }
	a, b, c, d := make([]string, texts), make([]int, nums), make([][]string, sets), make([][]int, numSets)
	for i := range a {
		a[i] = text()
	}
	for i := range b {
		b[i] = num()
	}
	for i := range c {
		c[i] = one(r, nil, []string{}, []string{text(), text()}, make([]string, 1001))
	}
	for i := range d {
		d[i] = one(r, nil, []int{}, []int{num(), num()}, make([]int, 1001))
	}
	return a, b, c, d
}

// P21.4: a program whose Depth is its shape's is accepted, with one less it is refused where the stack gets too great.
func TestTheLeastDepth(t *testing.T) {
	r := newChance(5)
	seen := map[int]int{}
	for range 2000 {
		p := r.program(one(r, 2, 5, 20, 50))
		_, shape := try(t, p)
		p.Depth = shape.Depth
		wantDepth(t, "its shape's depth", p, shape.Depth)
		for p.Depth > 0 {
			p.Depth--
			if got, _ := try(t, p); got.code != api.ErrOver || len(lines[p.Code[got.at].Op].takes) > 0 {
				t.Fatalf("%s: %v", told(p), got)
			}
		}
		seen[shape.Depth]++
	}
	for _, depth := range []int{1, 2, 3, 4, 5, 9} {
		if seen[depth] < 50 {
			t.Errorf("only %d programs of the depth %d (%v)", seen[depth], depth, seen)
		}
	}
}

// goAlong goes a way through a program that is accepted, as the coin falls at each jump: what it leaves is what Stacks tells, no local is loaded that isn't set, and the way ends with OpEnd.
func goAlong(t *testing.T, p api.Program, stacks [][]api.Cell, coin func() int) int {
	t.Helper()
	s := state{"", strings.Repeat(".", p.Locals)}
	place, steps := 0, 1
	for ; p.Code[place].Op != api.OpEnd; steps++ {
		i := p.Code[place]
		if letters(stacks[place]) != s.stack || i.Op == api.OpLoad && s.locals[i.A] == '.' {
			t.Fatalf("%s: at %d the stack is %s with %q in the locals, told was %v", told(p), place, s.stack, s.locals, stacks[place])
		}
		s = behind(i, s)
		next := nextOf(p, place)
		to := next[coin()%len(next)]
		if to <= place || to >= len(p.Code) {
			t.Fatalf("%s: from %d to %d", told(p), place, to)
		}
		place = to
	}
	if place != len(p.Code)-1 || steps > len(p.Code) || s.stack != "N" || letters(stacks[place]) != "N" {
		t.Fatalf("%s: ended at %d behind %d steps with %s", told(p), place, steps, s.stack)
	}
	return steps
}

// P21.5, P21.3: each way through a program that is accepted ends with OpEnd, rises, and is no longer than the program.
func TestWaysEnd(t *testing.T) {
	r := newChance(6)
	shorter := 0
	for range 4000 {
		p := r.program(one(r, 2, 5, 20, 50))
		if r.IntN(2) == 0 {
			p = r.disturb(p)
		}
		stacks, err := audit.Stacks(p)
		if err != nil {
			continue
		}
		if steps := goAlong(t, p, stacks, func() int { return 0 }); steps != len(p.Code) {
			t.Fatalf("%s: %d steps without a jump", told(p), steps)
		}
		if goAlong(t, p, stacks, func() int { return 1 }) < len(p.Code) {
			shorter++
		}
		for range 5 {
			goAlong(t, p, stacks, func() int { return r.IntN(2) })
		}
	}
	if shorter < 500 {
		t.Errorf("only %d programs with shorter ways", shorter)
	}
}
