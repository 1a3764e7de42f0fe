package audit_test

import (
	"fmt"
	"slices"
	"sync"
	"testing"

	"berth/api"
	"berth/audit"
	"berth/code"
)

// roomy is a copy of a list with spare room, which is filled with what no call may touch.
func roomy[T any](list []T, spare T) []T {
	return append(append([]T{}, list...), spare, spare, spare)[:len(list)]
}

func roomyProgram(p api.Program) api.Program {
	p.Texts, p.Nums, p.Code = roomy(p.Texts, "spare"), roomy(p.Nums, 77), roomy(p.Code, api.Instr{Op: 77, A: 7})
	p.Sets, p.NumSets = roomy(p.Sets, []string{"spare"}), roomy(p.NumSets, []int{77})
	for i, set := range p.Sets {
		p.Sets[i] = roomy(set, "spare")
	}
	for i, set := range p.NumSets {
		p.NumSets[i] = roomy(set, 77)
	}
	return p
}

// whole is all that stands in a program's lists, spare room too, as a text.
func whole(p api.Program) string {
	out := fmt.Sprintf("%d %d %d %d %d %q %d %d", len(p.Texts), len(p.Nums), len(p.Sets), len(p.NumSets), len(p.Code), p.Texts[:cap(p.Texts)], p.Nums[:cap(p.Nums)], p.Code[:cap(p.Code)])
	for _, set := range p.Sets[:cap(p.Sets)] {
		out += fmt.Sprintf("; %d %q", len(set), set[:cap(set)])
	}
	for _, set := range p.NumSets[:cap(p.NumSets)] {
		out += fmt.Sprintf("; %d %d", len(set), set[:cap(set)])
	}
	return out
}

// wide are programs of all kinds, those that are refused too.
func wide() []api.Program {
	out := []api.Program{{}, {Depth: -1}, small(1, long(33000)...), pools(4097, 0, 0, 0), small(128, slices.Repeat(puts("N"), 200)...)}
	r := newChance(7)
	for range 300 {
		p := r.program(one(r, 2, 5, 20))
		out = append(out, p, r.disturb(p))
	}
	return out
}

// wideBytes are bytes of all kinds: programs', changed and cut off ones.
func wideBytes() [][]byte {
	out := [][]byte{nil, {}, []byte("BRX")}
	r := newChance(8)
	for range 200 {
		b, _ := code.Encode(r.program(one(r, 2, 5, 20)))
		out = append(out, b, r.turn(b), b[:r.IntN(len(b))])
	}
	return out
}

// answer is all that the calls answer for a program and for bytes, as a text.
func answer(p api.Program, b []byte) string {
	shape, err := audit.Program(p)
	stacks, wrong := audit.Stacks(p)
	held, other, bad := audit.Bytes(b)
	return fmt.Sprint(shape, err, stacks, wrong, whole(held), other, bad)
}

// R6: the arguments stay as they are, spare room included.
func TestArgumentsStayAsTheyAre(t *testing.T) {
	for _, p := range wide() {
		handed := roomyProgram(p)
		was := whole(handed)
		audit.Program(handed)
		audit.Stacks(handed)
		if whole(handed) != was {
			t.Errorf("%s was changed", told(p))
		}
	}
	for _, b := range wideBytes() {
		handed := roomy(b, 0xee)
		audit.Bytes(handed)
		if !slices.Equal(handed[:cap(handed)], roomy(b, 0xee)[:cap(handed)]) || !slices.Equal(handed, b) {
			t.Errorf("% x was changed", b)
		}
	}
}

// overwrite writes over all that stands in a program.
func overwrite(p api.Program) {
	for _, set := range p.Sets {
		clear(set[:cap(set)])
	}
	for _, set := range p.NumSets {
		clear(set[:cap(set)])
	}
	clear(p.Texts[:cap(p.Texts)])
	clear(p.Nums[:cap(p.Nums)])
	clear(p.Sets[:cap(p.Sets)])
	clear(p.NumSets[:cap(p.NumSets)])
	clear(p.Code[:cap(p.Code)])
}

// R6, R9: what is written into an argument later, or into an answer, changes neither what was answered nor what is answered again.
func TestNothingIsKept(t *testing.T) {
	for _, p := range wide() {
		want := answer(p, nil)
		handed := roomyProgram(p)
		stacks, err := audit.Stacks(handed)
		first := fmt.Sprint(stacks, err)
		overwrite(handed)
		if fmt.Sprint(stacks, err) != first {
			t.Errorf("the answer of %s has changed", told(p))
		}
		for _, stack := range stacks {
			clear(stack[:cap(stack)])
		}
		clear(stacks[:cap(stacks)])
		if got := answer(p, nil); got != want {
			t.Errorf("%s: %s, want %s", told(p), short(got), short(want))
		}
	}
	for _, b := range wideBytes() {
		want := answer(api.Program{}, b)
		handed := roomy(b, 0xee)
		p, _, _ := audit.Bytes(handed)
		first := whole(p)
		clear(handed[:cap(handed)])
		if whole(p) != first {
			t.Errorf("the answer of % x has changed", b)
		}
		overwrite(p)
		if got := answer(api.Program{}, b); got != want {
			t.Errorf("% x: %s, want %s", b, short(got), short(want))
		}
	}
}

// R2, R6: each fault is one of its own.
func TestFaultsAreNew(t *testing.T) {
	for _, p := range []api.Program{{}, {Depth: -1}, small(1, op(99))} {
		want := judge(p)
		_, first := audit.Program(p)
		first.(*api.Fault).At, first.(*api.Fault).Name = 99, "changed"
		_, second := audit.Stacks(p)
		second.(*api.Fault).Code = 99
		tryAs(t, p, want)
	}
}

// memory knows the address of each element of each list that it has been told of, spare room too.
type memory map[any]bool

// tell: whether no element of a list was known.
func tell[T any](m memory, list []T) bool {
	fresh := true
	every := list[:cap(list)]
	for i := range every {
		fresh = fresh && !m[&every[i]]
		m[&every[i]] = true
	}
	return fresh
}

func (m memory) program(p api.Program) bool {
	fresh := []bool{tell(m, p.Texts), tell(m, p.Nums), tell(m, p.Sets), tell(m, p.NumSets), tell(m, p.Code)}
	for _, set := range p.Sets {
		fresh = append(fresh, tell(m, set))
	}
	for _, set := range p.NumSets {
		fresh = append(fresh, tell(m, set))
	}
	return !slices.Contains(fresh, false)
}

// R6: the lists of an answer are new memory, spare room too: no two of them, no argument and no other answer have an element in one place.
func TestAnswersAreNew(t *testing.T) {
	r := newChance(9)
	for range 100 {
		p := r.program(one(r, 2, 5, 20, 100))
		b, _ := code.Encode(p)
		m, handed, bytes := memory{}, roomyProgram(p), roomy(b, 0xee)
		m.program(handed)
		tell(m, bytes)
		for range 3 {
			stacks, err := audit.Stacks(handed)
			fresh := []bool{tell(m, stacks)}
			for _, stack := range stacks {
				fresh = append(fresh, tell(m, stack))
			}
			if err != nil || slices.Contains(fresh, false) {
				t.Errorf("an answer of %s shares memory: %v", told(p), err)
			}
			if got, _, err := audit.Bytes(bytes); err != nil || !m.program(got) {
				t.Errorf("an answer of % x shares memory: %v", b, err)
			}
		}
	}
}

// R5: an answer hangs on what is in the lists, not on the room behind them nor on their being nil.
func TestRoomAndNil(t *testing.T) {
	for _, p := range wide() {
		if first, second := answer(p, nil), answer(roomyProgram(p), []byte{}); first != second {
			t.Errorf("%s: %s, then %s", told(p), short(first), short(second))
		}
	}
	for _, b := range wideBytes() {
		if first, second := answer(api.Program{}, b), answer(api.Program{Code: []api.Instr{}}, roomy(b, 0xee)); first != second {
			t.Errorf("% x: %s, then %s", b, short(first), short(second))
		}
	}
	empty := api.Program{Texts: []string{}, Nums: []int{}, Sets: [][]string{}, NumSets: [][]int{}, Code: []api.Instr{}}
	wantFault(t, "empty lists", empty, api.ErrStop, 0)
	empty.Code, empty.Depth = join(op(api.OpAll), end()), 1
	wantDepth(t, "empty pools", empty, 1)
	wantDepth(t, "no pools", api.Program{Depth: 1, Code: empty.Code}, 1)
}

// R9: an answer hangs on the arguments alone: not on what was asked before, nor on what is asked at the same time.
func TestAnswersHangOnTheArguments(t *testing.T) {
	programs, lists := wide(), wideBytes()
	want := make([]string, len(programs))
	ask := func(i int) string { return answer(programs[i], lists[i%len(lists)]) }
	for i := range want {
		want[i] = ask(i)
	}
	var every sync.WaitGroup
	for k := range 8 {
		every.Go(func() {
			for i := range 200 {
				at := (i*(k+1) + k) % len(want)
				if got := ask(at); got != want[at] {
					t.Errorf("%d: %s, want %s", at, short(got), short(want[at]))
				}
			}
		})
	}
	every.Wait()
}
