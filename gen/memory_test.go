package gen_test

import (
	"fmt"
	"slices"
	"strings"
	"sync"
	"testing"

	"berth/api"
	"berth/gen"
)

// wide are dags of all kinds: with sets that stand several times and are beginnings of one another, with locals, and such as are refused.
func wide() []api.Dag {
	set := leaf(zone("x", "y", "z"))
	out := []api.Dag{
		dag(set), dag(set, node(api.DAnd, 0, 0, 0)), dag(set, set, leaf(zone("x", "y")), leaf(cores(1, 2, 3)), leaf(cores(1, 2)), leaf(cores(1, 2, 3)), node(api.DOr, 0, 1, 2, 3, 4, 5)),
		dag(forPods(leaf(texts(nameTerm(api.OfIt), "x", "y", "z"))), forPods(node(api.DAnd, 0, 0)), leaf(near("z", 1)), leaf(counted(0, 1, 2)), leaf(counted(1, 1, 2)), set, node(api.DOr, 2, 3, 4, 2, 5)),
		doubling(set, api.DOr, 60), dag(locals(30)...), dag(locals(1026)...), dag(chain([]api.DagPart{set}, 130, false, api.DAnd)...), dag(leaf(cores(upTo(1000)...))),
	}
	for _, x := range forNodes() {
		out = append(out, dag(s, leaf(x.l), leaf(x.l), node(api.DAnd, 1, 2, 1)))
	}
	for _, dags := range pointsAlone() {
		out = append(out, dags[:min(len(dags), 40)]...)
	}
	r := newChance(10)
	for range 300 {
		out = append(out, r.dag(25))
	}
	return out
}

// roomy is a copy of a list with spare room, which is filled with what no call may touch.
func roomy[T any](list []T, spare T) []T {
	return append(append([]T{}, list...), spare, spare, spare)[:len(list)]
}

func roomyDag(d api.Dag) api.Dag {
	d.Parts = roomy(d.Parts, leaf(tol("spare")))
	for i := range d.Parts {
		part := &d.Parts[i]
		part.Kids, part.Lit.Texts, part.Lit.Nums = roomy(part.Kids, 77), roomy(part.Lit.Texts, "spare"), roomy(part.Lit.Nums, 77)
	}
	return d
}

// whole is all that stands in a dag's lists, spare room too, as a text.
func whole(d api.Dag) string {
	var out strings.Builder
	fmt.Fprint(&out, len(d.Parts), d.Root, ":")
	for _, part := range d.Parts[:cap(d.Parts)] {
		l := part.Lit
		fmt.Fprintf(&out, "%+v %v %q %v;", part, part.Kids[:cap(part.Kids)], l.Texts[:cap(l.Texts)], l.Nums[:cap(l.Nums)])
	}
	return out.String()
}

// R6: the argument stays as it is, spare room included.
func TestArgumentsStayAsTheyAre(t *testing.T) {
	for _, x := range wide() {
		handed := roomyDag(x)
		was := whole(handed)
		if gen.Gen(handed); whole(handed) != was {
			t.Errorf("%s was changed", short(toldDag(x)))
		}
	}
}

// overwriteDag and overwriteProgram write over all that stands in a dag, in a program.
func overwriteDag(d api.Dag) {
	for i, part := range d.Parts {
		clear(part.Kids[:cap(part.Kids)])
		clear(part.Lit.Texts[:cap(part.Lit.Texts)])
		clear(part.Lit.Nums[:cap(part.Lit.Nums)])
		d.Parts[i] = no
	}
}

func overwriteProgram(p api.Program) {
	for _, set := range p.Sets {
		clear(set[:cap(set)])
	}
	for _, set := range p.NumSets {
		clear(set[:cap(set)])
	}
	clear(p.Texts[:cap(p.Texts)])
	clear(p.Nums[:cap(p.Nums)])
	clear(p.Sets[:cap(p.Sets)])
	clear(p.NumSets[:cap(p.NumSets)])
	clear(p.Code[:cap(p.Code)])
}

// R6, R9: what is written into an argument later, or into an answer, changes neither what was answered nor what is answered again.
func TestNothingIsKept(t *testing.T) {
	for _, x := range wide() {
		want, code := gen.Gen(copied(x))
		handed := roomyDag(x)
		got, e := gen.Gen(handed)
		overwriteDag(handed)
		if e != code || !sameProgram(got, want) {
			t.Errorf("the answer has changed to %s, %d", short(told(got)), e)
		}
		overwriteProgram(got)
		if got, e = gen.Gen(x); e != code || !sameProgram(got, want) {
			t.Errorf("Gen of %s = %s, %d, want %s", short(toldDag(x)), short(told(got)), e, short(told(want)))
		}
	}
}

// memory knows the address of each element of each list that it has been told of, spare room too.
type memory map[any]bool

// tell: whether no element of a list was known.
func tell[T any](m memory, list []T) bool {
	fresh := true
	all := list[:cap(list)]
	for i := range all {
		fresh = fresh && !m[&all[i]]
		m[&all[i]] = true
	}
	return fresh
}

func (m memory) dag(d api.Dag) {
	tell(m, d.Parts)
	for _, part := range d.Parts {
		tell(m, part.Kids)
		tell(m, part.Lit.Texts)
		tell(m, part.Lit.Nums)
	}
}

func (m memory) program(p api.Program) bool {
	fresh := []bool{tell(m, p.Texts), tell(m, p.Nums), tell(m, p.Sets), tell(m, p.NumSets), tell(m, p.Code)}
	for _, set := range p.Sets {
		fresh = append(fresh, tell(m, set))
	}
	for _, set := range p.NumSets {
		fresh = append(fresh, tell(m, set))
	}
	return !slices.Contains(fresh, false)
}

// R6: the lists of an answer are new memory, spare room too: no two of them, no argument and no other answer have an element in one place.
func TestAnswersAreNew(t *testing.T) {
	for _, x := range wide() {
		m, handed := memory{}, roomyDag(x)
		m.dag(handed)
		for range 3 {
			if got, e := gen.Gen(handed); !m.program(got) {
				t.Errorf("an answer of %s shares memory: %s, %d", short(toldDag(x)), short(told(got)), e)
			}
		}
	}
}

// R5: an answer hangs on what is in the lists, not on the room behind them nor on their being nil.
func TestRoomAndNil(t *testing.T) {
	for _, x := range wide() {
		first, code := gen.Gen(x)
		if second, e := gen.Gen(roomyDag(x)); e != code || !sameProgram(first, second) {
			t.Errorf("%s: %s, then %s", short(toldDag(x)), short(told(first)), short(told(second)))
		}
	}
}

// R9: an answer hangs on the argument alone: not on what was asked before, nor on what is asked at the same time.
func TestAnswersHangOnTheArguments(t *testing.T) {
	dags := wide()
	ask := func(i int) string {
		p, e := gen.Gen(dags[i])
		return fmt.Sprint(told(p), e)
	}
	want := make([]string, len(dags))
	for i := range dags {
		want[i] = ask(i)
	}
	var all sync.WaitGroup
	for k := range 8 {
		all.Go(func() {
			for i := range 300 {
				at := (i*(k+1) + k) % len(dags)
				if told := ask(at); told != want[at] {
					t.Errorf("%d: %s, want %s", at, short(told), short(want[at]))
				}
			}
		})
	}
	all.Wait()
}
