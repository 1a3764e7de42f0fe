package vm_test

import (
	"fmt"
	"testing"

	"berth/api"
)

// missing are pieces of code that leave an undefined number: of a label that isn't there, and of texts that write none.
var missing = []string{"podlabel none; int", "podlabel zone; int", "podlabel odd; int", "text _; int", "text 07; int", "text -0; int", "text 1000000000000000; int", "podname; int"}

// P22.1: an undefined text in each Op that may find one.
func TestUndefinedTexts(t *testing.T) {
	b := ordinary(t)
	pod := someone()
	b.wants(t, pod, "podlabel none; one; label 0 zone; end") // it isn't the empty text
	b.wantsPods(t, pod, "podlabel none; one; label 1 zone", "")
	b.wants(t, pod, "podlabel none; one; name 0; end")
	b.wantsPods(t, pod, "podlabel none; one; name 1", "")
	b.wants(t, pod, "podlabel none; one; has 0; end")
	b.wantsPods(t, pod, "podlabel none; one; has 1", "")
	b.wants(t, pod, "podlabel none; one; taint; end")
	for _, set := range []string{"texts x,_", "texts _", "texts .", "podkeys", "podlabel none; one", "text _; one"} {
		b.allOrNone(t, pod, "podlabel none; "+set+"; member %d", false)
	}
	b.allOrNone(t, pod, "text x; podlabel none; one; member %d", false)
	b.allOrNone(t, pod, "text _; podlabel none; one; member %d", false)
	b.allOrNone(t, pod, "podlabel none; int; nums 0; among %d", false)
	b.wants(t, pod, "podlabel none; pop; all 0; end", every...)
	empty := api.Pod{Labels: tags("none", "")}
	b.wants(t, empty, "podlabel none; one; label 0 zone; end", last) // an empty value is there
	b.allOrNone(t, empty, "podlabel none; texts _; member %d", true)
	b.allOrNone(t, empty, "podlabel none; podlabel none; one; member %d", true)
}

// P22.1, R12: an undefined number in each Op that may find one, with each Cmp, CmpNe too.
func TestUndefinedNumbers(t *testing.T) {
	b := ordinary(t)
	pod := someone()
	for _, number := range missing {
		for _, mark := range marks[1:] {
			b.wants(t, pod, fmt.Sprintf("%s; number 0 rank %s; end", number, mark))
			b.wantsPods(t, pod, fmt.Sprintf("%s; number 1 rank %s", number, mark), "")
			b.wants(t, pod, fmt.Sprintf("%s; cap cpu %s; end", number, mark))
			b.wants(t, pod, fmt.Sprintf("%s; cap nothing %s; end", number, mark))
			b.wants(t, pod, fmt.Sprintf("all 1; %s; count zone %s; end", number, mark))
			b.wants(t, pod, fmt.Sprintf("none 1; %s; count zone %s; end", number, mark))
			b.allOrNone(t, pod, fmt.Sprintf("%s; num 0; compare %%d %s", number, mark), false)
			b.allOrNone(t, pod, fmt.Sprintf("num 0; %s; compare %%d %s", number, mark), false)
			b.allOrNone(t, pod, fmt.Sprintf("%s; %s; compare %%d %s", number, number, mark), false)
		}
		b.allOrNone(t, pod, number+"; nums 0,7; among %d", false)
		b.wants(t, pod, number+"; pop; all 0; end", every...)
	}
}

// P22.1: what OpInt reads: canonical integers of at most fifteen digits.
func TestInt(t *testing.T) {
	b := ordinary(t)
	for text, n := range map[string]int{"0": 0, "7": 7, "-1": -1, "999999999999999": 999999999999999, "-999999999999999": -999999999999999} {
		b.allOrNone(t, someone(), fmt.Sprintf("text %s; int; num %d; compare %%d ==", text, n), true)
		b.allOrNone(t, api.Pod{Labels: tags("n", text)}, fmt.Sprintf("podlabel n; int; nums %d; among %%d", n), true)
		b.allOrNone(t, api.Pod{Name: text}, fmt.Sprintf("podname; int; num %d; compare %%d !=", n), false)
	}
	for _, text := range []string{"_", "07", "-0", "+1", "1.0", "1e3", "x", "-", "1000000000000000", "-1000000000000000", "0x1", "1_0", "٣"} {
		b.allOrNone(t, someone(), fmt.Sprintf("text %s; int; text %s; int; compare %%d ==", text, text), false)
		b.allOrNone(t, api.Pod{Labels: tags("n", word(text))}, "podlabel n; int; nums 0,1,7; among %d", false)
	}
}

// P22.1, R12: CmpNe of numbers that are unlike, alike and not there, in each Op that has a Cmp.
func TestUnlikeNumbers(t *testing.T) {
	b := ordinary(t)
	pod := someone()
	b.wants(t, pod, "num 9; number 0 rank !=; end", 0, 1, 63, last) // c has no number there
	b.wants(t, pod, "num 3; number 0 rank !=; end", 1, last)
	b.wants(t, pod, "num 3; number 0 rank ==; not; end", 1, 2, last) // the language's !=
	b.wantsPods(t, pod, "num 9; number 1 rank !=", "pq")
	b.wants(t, pod, "num 9; cap cpu !=; end", every...)
	b.wants(t, pod, "num 0; cap cpu !=; end", 0, 1)
	b.wants(t, pod, "all 1; num 9; count zone !=; end", 0, 1, 2, last) // d has no zone
	b.wants(t, pod, "all 1; num 2; count zone !=; end", 2, last)
	b.wants(t, pod, "all 1; num 2; count zone ==; not; end", 2, 63, last)
	b.allOrNone(t, pod, "num 9; num 3; compare %d !=", true)
	b.allOrNone(t, pod, "num 9; num 9; compare %d !=", false)
	b.allOrNone(t, pod, "num 9; podlabel none; int; compare %d !=", false)
}

// P22.1: empty sets, of the program and of the pod, in each Op that takes one.
func TestEmptySets(t *testing.T) {
	b := ordinary(t)
	for _, pod := range []api.Pod{{}, {Labels: []api.Label{}}} {
		for _, set := range []string{"texts .", "podkeys", "podlabel none; one"} {
			b.wants(t, pod, set+"; label 0 zone; end")
			b.wantsPods(t, pod, set+"; label 1 app", "")
			b.wants(t, pod, set+"; name 0; end")
			b.wantsPods(t, pod, set+"; name 1", "")
			b.wants(t, pod, set+"; has 0; end")
			b.wantsPods(t, pod, set+"; has 1", "")
			b.wants(t, pod, set+"; taint; end")
			b.allOrNone(t, pod, "text _; "+set+"; member %d", false)
		}
	}
	b.wants(t, someone(), "nums .; numberin 0 rank; end")
	b.wantsPods(t, someone(), "nums .; numberin 1 rank", "")
	b.wants(t, someone(), "nums .; capin nothing; end")
	b.wants(t, someone(), "none 1; nums .; countin zone; end")
	b.wants(t, someone(), "all 1; nums .; countin zone; end")
	b.allOrNone(t, someone(), "num 0; nums .; among %d", false)
	p := assemble("texts .; label 0 zone; nums .; numberin 0 rank; or; end")
	p.Sets[0], p.NumSets[0] = nil, nil
	if slots, _, e := b.try(t, p, someone()); e != api.OK || len(slots) > 0 {
		t.Errorf("nil sets: %v, %d", slots, e)
	}
}

// P22.1: what stands in the pools isn't looked at by the audit: sets in no order, with one thing twice; texts and numbers of any kind.
func TestPoolsInNoOrder(t *testing.T) {
	b := ordinary(t)
	b.wants(t, someone(), "texts y,x,y,x; label 0 zone; end", 0, 1, 2)
	b.wants(t, someone(), "texts e,a,e; name 0; end", 0, last)
	b.wants(t, someone(), "texts zone,disk,zone; has 0; end", 0, 1, 2, last)
	b.wants(t, someone(), "texts gpu,disk,gpu; taint; end", 0, 1, 63)
	b.wants(t, someone(), "nums 3,-5,3; numberin 0 rank; end", 0, 1, 63)
	b.wants(t, someone(), "nums 8,4,8; capin cpu; end", 0, 1)
	b.wants(t, someone(), "all 1; nums 2,1,2; countin zone; end", 0, 1, 2)
	b.allOrNone(t, someone(), "text x; texts y,x,y,x; member %d", true)
	b.allOrNone(t, someone(), "num 3; nums 5,3,5; among %d", true)
	p := api.Program{Texts: []string{"zone", "\xff\x00", "zone"}, Sets: [][]string{{"\xff", "x\x00", "x"}}, Depth: 2, Code: []api.Instr{op(api.OpTexts), op(api.OpLabel, 0, 2), op(api.OpTexts), op(api.OpLabel, 0, 1), op(api.OpOr), op(api.OpEnd)}}
	if slots, _, e := b.try(t, p, someone()); e != api.OK || fmt.Sprint(slots) != "[0 1]" {
		t.Errorf("%v, %d", slots, e)
	}
}
