package code_test

import (
	"bytes"
	"fmt"
	"slices"
	"sync"
	"testing"

	"berth/api"
	"berth/code"
)

// roomy is a copy of a list with spare room, which is filled with what no call may touch.
func roomy[T any](list []T, spare T) []T {
	return append(append([]T{}, list...), spare, spare, spare)[:len(list)]
}

func roomyProgram(p api.Program) api.Program {
	p.Texts, p.Nums, p.Code = roomy(p.Texts, "spare"), roomy(p.Nums, 77), roomy(p.Code, api.Instr{Op: 77, A: 7})
	p.Sets, p.NumSets = roomy(p.Sets, []string{"spare"}), roomy(p.NumSets, []int{77})
	for i, set := range p.Sets {
		p.Sets[i] = roomy(set, "spare")
	}
	for i, set := range p.NumSets {
		p.NumSets[i] = roomy(set, 77)
	}
	return p
}

// whole is all that stands in a program's lists, spare room too, as a text.
func whole(p api.Program) string {
	out := fmt.Sprintf("%d %d %d %d %d %q %d %d", len(p.Texts), len(p.Nums), len(p.Sets), len(p.NumSets), len(p.Code), p.Texts[:cap(p.Texts)], p.Nums[:cap(p.Nums)], p.Code[:cap(p.Code)])
	for _, set := range p.Sets[:cap(p.Sets)] {
		out += fmt.Sprintf("; %d %q", len(set), set[:cap(set)])
	}
	for _, set := range p.NumSets[:cap(p.NumSets)] {
		out += fmt.Sprintf("; %d %d", len(set), set[:cap(set)])
	}
	return out
}

// wide are programs of all kinds, those without a form too.
func wide() []api.Program {
	out := programs()
	r := newChance(7)
	for range 200 {
		p := r.program(6)
		r.disturb(&p)
		out = append(out, p)
	}
	return append(out, pools(4097, 0, 0, 0), api.Program{Depth: -1, Texts: []string{"b", "a"}}, api.Program{NumSets: [][]int{upTo(0, 1001)}})
}

// wideBytes are bytes of all kinds: programs', changed and cut off ones.
func wideBytes() [][]byte {
	out := [][]byte{nil, {}, []byte("BRX"), []byte(start)}
	r := newChance(8)
	for _, p := range programs() {
		b := slices.Concat(fields(p)...)
		out = append(out, b, r.turn(b), r.turn(r.turn(b)), joined(b, 0))
	}
	return out
}

// P20.5, R6: the arguments stay as they are, spare room included.
func TestArgumentsStayAsTheyAre(t *testing.T) {
	for _, p := range wide() {
		handed := roomyProgram(p)
		was := whole(handed)
		if code.Encode(handed); whole(handed) != was {
			t.Errorf("%s was changed", told(p))
		}
	}
	for _, b := range wideBytes() {
		handed := roomy(b, 0xee)
		code.Decode(handed)
		if !bytes.Equal(handed[:cap(handed)], roomy(b, 0xee)[:cap(handed)]) || !bytes.Equal(handed, b) {
			t.Errorf("%s was changed", toldBytes(b))
		}
	}
}

// overwrite writes over all that stands in a program.
func overwrite(p api.Program) {
	for _, set := range p.Sets {
		clear(set[:cap(set)])
	}
	for _, set := range p.NumSets {
		clear(set[:cap(set)])
	}
	clear(p.Texts[:cap(p.Texts)])
	clear(p.Nums[:cap(p.Nums)])
	clear(p.Sets[:cap(p.Sets)])
	clear(p.NumSets[:cap(p.NumSets)])
	clear(p.Code[:cap(p.Code)])
}

// fill writes one byte over all bytes, spare room too.
func fill(b []byte, x byte) {
	for i := range b[:cap(b)] {
		b[:cap(b)][i] = x
	}
}

// P20.5, R6, R9: what is written into an argument later, or into an answer, changes neither what was answered nor what is answered again.
func TestNothingIsKept(t *testing.T) {
	for _, p := range wide() {
		want, number := code.Encode(p)
		want = slices.Clone(want)
		handed := roomyProgram(p)
		got, e := code.Encode(handed)
		overwrite(handed)
		if e != number || !bytes.Equal(got, want) {
			t.Errorf("the answer has changed to %s, %d", toldBytes(got), e)
		}
		fill(got, 0xee)
		if got, e = code.Encode(p); e != number || !bytes.Equal(got, want) {
			t.Errorf("Encode(%s) = %s, %d, want %s", told(p), toldBytes(got), e, toldBytes(want))
		}
	}
	for _, b := range wideBytes() {
		want, number, at := readModel(slices.Clone(b))
		handed := roomy(b, 0xee)
		got, err := code.Decode(handed)
		fill(handed, 'x')
		if !sameProgram(got, want) {
			t.Errorf("the answer has changed to %s", told(got))
		}
		if f, is := err.(*api.Fault); is && (f.Code != number || f.At != at) {
			t.Errorf("the fault has changed to %v", err)
		}
		overwrite(got)
		if got, _ = code.Decode(b); !sameProgram(got, want) {
			t.Errorf("Decode(%s) = %s, want %s", toldBytes(b), told(got), told(want))
		}
	}
}

// P20.2, R6: each fault is one of its own.
func TestFaultsAreNew(t *testing.T) {
	_, first := code.Decode(nil)
	first.(*api.Fault).At, first.(*api.Fault).Name = 99, "changed"
	wantFault(t, nil, fault{api.ErrCodeCut, 0})
}

// memory knows the address of each element of each list that it has been told of, spare room too.
type memory map[any]bool

// tell: whether no element of a list was known.
func tell[T any](m memory, list []T) bool {
	fresh := true
	every := list[:cap(list)]
	for i := range every {
		fresh = fresh && !m[&every[i]]
		m[&every[i]] = true
	}
	return fresh
}

func (m memory) program(p api.Program) bool {
	fresh := []bool{tell(m, p.Texts), tell(m, p.Nums), tell(m, p.Sets), tell(m, p.NumSets), tell(m, p.Code)}
	for _, set := range p.Sets {
		fresh = append(fresh, tell(m, set))
	}
	for _, set := range p.NumSets {
		fresh = append(fresh, tell(m, set))
	}
	return !slices.Contains(fresh, false)
}

// P20.5, R6: the lists of an answer are new memory, spare room too: no two of them, no argument and no other answer have an element in one place.
func TestAnswersAreNew(t *testing.T) {
	for _, p := range programs() {
		m, handed := memory{}, roomyProgram(p)
		m.program(handed)
		b := roomy(slices.Concat(fields(p)...), 0xee)
		tell(m, b)
		for range 3 {
			if got, e := code.Encode(handed); e != api.OK || !tell(m, got) {
				t.Errorf("an answer of %s shares memory: %d", told(p), e)
			}
			if got, err := code.Decode(b); err != nil || !m.program(got) {
				t.Errorf("an answer of %s shares memory: %v", toldBytes(b), err)
			}
		}
	}
}

// R5: an answer hangs on what is in the lists, not on the room behind them nor on their being nil.
func TestRoomAndNil(t *testing.T) {
	for _, p := range wide() {
		first, number := code.Encode(p)
		if second, e := code.Encode(roomyProgram(p)); e != number || !bytes.Equal(first, second) {
			t.Errorf("%s: %s, then %s", told(p), toldBytes(first), toldBytes(second))
		}
	}
	empty := api.Program{Texts: []string{}, Nums: []int{}, Sets: [][]string{}, NumSets: [][]int{}, Code: []api.Instr{}}
	wantForm(t, "empty lists", empty, true)
	wantForm(t, "nil lists", api.Program{}, true)
	wantForm(t, "an empty set", api.Program{Sets: [][]string{{}}}, false)
	wantForm(t, "an empty set of numbers", api.Program{NumSets: [][]int{{}}}, false)
	wantFault(t, []byte{}, fault{api.ErrCodeCut, 0})
	for _, b := range wideBytes() {
		number, at := tryDecode(t, b)
		wantFault(t, roomy(b, 0xee), fault{number, at})
	}
}

// R6: lists of an argument may stand in the same memory: the answer is that of lists that don't.
func TestArgumentsThatShare(t *testing.T) {
	texts, nums := names(9), upTo(-4, 9)
	p := api.Program{Texts: texts, Nums: nums, Sets: [][]string{texts[:1], texts[:3], texts, texts[1:], texts[4:6]}, NumSets: [][]int{nums[:2], nums, nums[3:4], nums[3:]}, Code: all()}
	wantForm(t, "shared lists", p, true)
}

// R9: an answer hangs on the argument alone: not on what was asked before, nor on what is asked at the same time.
func TestAnswersHangOnTheArguments(t *testing.T) {
	programs, lists := wide(), wideBytes()
	ask := func(i int) string {
		b, e := code.Encode(programs[i%len(programs)])
		p, err := code.Decode(lists[i%len(lists)])
		return fmt.Sprint(b, e, told(p), err)
	}
	want := make([]string, len(programs))
	for i := range want {
		want[i] = ask(i)
	}
	var every sync.WaitGroup
	for k := range 8 {
		every.Go(func() {
			for i := range 100 {
				at := (i*(k+1) + k) % len(want)
				if told := ask(at); told != want[at] {
					t.Errorf("%d: %s, want %s", at, short(told), short(want[at]))
				}
			}
		})
	}
	every.Wait()
}
