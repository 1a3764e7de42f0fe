package gen_test

import (
	"strings"
	"testing"

	"berth/api"
)

// P19.1: a dag of each kind of part, for nodes.
func TestKindsForNodes(t *testing.T) {
	expect(t, dag(yes), `All 0; End`, 1, 0)
	expect(t, dag(no), `None 0; End`, 1, 0)
	expect(t, dag(a), `Tolerated a; End`, 1, 0)
	expect(t, dag(a, node(api.DNot, 0)), `Tolerated a; Not; End`, 1, 0)
	expect(t, dag(yes, node(api.DNot, 0)), `All 0; Not; End`, 1, 0)
	expect(t, dag(a, b, node(api.DAnd, 0, 1)), `Tolerated a; JumpNone 4; Tolerated b; And; End`, 2, 0)
	expect(t, dag(a, b, node(api.DOr, 0, 1)), `Tolerated a; JumpAll 4; Tolerated b; Or; End`, 2, 0)
	expect(t, dag(a, b, node(api.DAnd, 1, 0)), `Tolerated b; JumpNone 4; Tolerated a; And; End`, 2, 0)
	expect(t, dag(a, b, node(api.DAnd, 0, 1), node(api.DNot, 2)), `Tolerated a; JumpNone 4; Tolerated b; And; Not; End`, 2, 0)
}

// P19.1: a dag of each kind of part, for pods.
func TestKindsForPods(t *testing.T) {
	pods := func(parts ...api.DagPart) api.Dag {
		for i := range parts {
			parts[i].Pods = true
		}
		return dag(append(parts, leaf(near("z", len(parts)-1)))...)
	}
	expect(t, pods(yes), `All 1; Near z; End`, 1, 0)
	expect(t, pods(no), `None 1; Near z; End`, 1, 0)
	expect(t, pods(s), `Texts 1; Label 1 x; Near z; End`, 1, 0)
	expect(t, pods(s, node(api.DNot, 0)), `Texts 1; Label 1 x; Not; Near z; End`, 1, 0)
	expect(t, pods(s, u, node(api.DAnd, 0, 1)), `Texts 1; Label 1 x; JumpNone 6; Texts 2; Name 1; And; Near z; End`, 2, 0)
	expect(t, pods(s, u, node(api.DOr, 1, 0)), `Texts 2; Name 1; JumpAll 6; Texts 1; Label 1 x; Or; Near z; End`, 2, 0)
	expect(t, pods(s, u, node(api.DNot, 1), node(api.DAnd, 0, 2)), `Texts 1; Label 1 x; JumpNone 6; Texts 2; Name 1; AndNot; Near z; End`, 2, 0)
	expect(t, pods(s, node(api.DNot, 0), yes, node(api.DOr, 1, 2)), `Texts 1; Label 1 x; Not; JumpAll 6; All 1; Or; Near z; End`, 2, 0)
	expect(t, pods(s, node(api.DAnd, 0, 0)), `Texts 1; Label 1 x; Save 0; Load 0; JumpNone 7; Load 0; And; Near z; End`, 2, 1)
}

// P19.1: joints of many kids: each jump leads to the end of its own part.
func TestManyKids(t *testing.T) {
	expect(t, dag(a, b, c, node(api.DAnd, 0, 1, 2)), `Tolerated a; JumpNone 7; Tolerated b; And; JumpNone 7; Tolerated c; And; End`, 2, 0)
	expect(t, dag(a, b, c, yes, node(api.DOr, 2, 1, 3, 0)), `Tolerated c; JumpAll 10; Tolerated b; Or; JumpAll 10; All 0; Or; JumpAll 10; Tolerated a; Or; End`, 2, 0)
	var kids []int
	parts := []api.DagPart{}
	for i := range 500 {
		parts, kids = append(parts, []api.DagPart{a, b, yes}[i%3]), append(kids, i)
	}
	p := check(t, dag(append(parts, node(api.DOr, kids...))...))
	for place, i := range p.Code {
		if jump := place%3 == 1 && place < 1498; jump != (i.Op == api.OpJumpAll) || jump && i.A != 1498 {
			t.Fatalf("%d: %s", place, toldInstr(p, i))
		}
	}
	if len(p.Code) != 1499 || p.Depth != 2 {
		t.Errorf("%d instructions, depth %d", len(p.Code), p.Depth)
	}
}

// P19.1: joints within joints, as the first kid and as a further one.
func TestNestedJoints(t *testing.T) {
	expect(t, dag(a, b, c, node(api.DOr, 1, 2), node(api.DAnd, 0, 3)), `Tolerated a; JumpNone 7; Tolerated b; JumpAll 6; Tolerated c; Or; And; End`, 3, 0)
	expect(t, dag(a, b, node(api.DOr, 0, 1), c, node(api.DAnd, 2, 3)), `Tolerated a; JumpAll 4; Tolerated b; Or; JumpNone 7; Tolerated c; And; End`, 2, 0)
	expect(t, dag(a, b, c, node(api.DAnd, 1, 2), node(api.DAnd, 0, 3)), `Tolerated a; JumpNone 7; Tolerated b; JumpNone 6; Tolerated c; And; And; End`, 3, 0)
	expect(t, dag(a, b, node(api.DAnd, 0, 1), c, yes, node(api.DAnd, 3, 4), node(api.DOr, 2, 5)), `Tolerated a; JumpNone 4; Tolerated b; And; JumpAll 10; Tolerated c; JumpNone 9; All 0; And; Or; End`, 3, 0)
	// the end of a part that stands in a literal is ahead of the literal's last instructions
	count := leaf(rel(countTerm("z", 2), api.CmpGe, 3))
	expect(t, dag(s, u, forPods(node(api.DOr, 0, 1)), a, count, node(api.DAnd, 3, 4)), `Tolerated a; JumpNone 11; Texts 1; Label 1 x; JumpAll 8; Texts 2; Name 1; Or; Num 3; Count z >=; And; End`, 3, 0)
}

// P19.1: DNot as the first kid and as a further kid of DAnd and of DOr, saved and not; DNot over DNot.
func TestNegations(t *testing.T) {
	not := func(kid int) api.DagPart { return node(api.DNot, kid) }
	expect(t, dag(a, not(0), b, node(api.DAnd, 1, 2)), `Tolerated a; Not; JumpNone 5; Tolerated b; And; End`, 2, 0)
	expect(t, dag(a, not(0), b, node(api.DAnd, 2, 1)), `Tolerated b; JumpNone 4; Tolerated a; AndNot; End`, 2, 0)
	expect(t, dag(a, not(0), b, node(api.DOr, 1, 2)), `Tolerated a; Not; JumpAll 5; Tolerated b; Or; End`, 2, 0)
	expect(t, dag(a, not(0), b, node(api.DOr, 2, 1)), `Tolerated b; JumpAll 5; Tolerated a; Not; Or; End`, 2, 0)
	expect(t, dag(a, b, c, not(0), not(1), not(2), node(api.DAnd, 3, 4, 5)), `Tolerated a; Not; JumpNone 8; Tolerated b; AndNot; JumpNone 8; Tolerated c; AndNot; End`, 2, 0)
	// over one another
	expect(t, dag(a, not(0), not(1)), `Tolerated a; Not; Not; End`, 1, 0)
	expect(t, dag(a, not(0), not(1), b, node(api.DAnd, 3, 2)), `Tolerated b; JumpNone 5; Tolerated a; Not; AndNot; End`, 2, 0)
	expect(t, dag(a, not(0), not(1), not(2), b, node(api.DAnd, 3, 4)), `Tolerated a; Not; Not; Not; JumpNone 7; Tolerated b; And; End`, 2, 0)
	expect(t, dag(a, b, node(api.DOr, 0, 1), not(2), c, node(api.DAnd, 4, 3)), `Tolerated c; JumpNone 7; Tolerated a; JumpAll 6; Tolerated b; Or; AndNot; End`, 3, 0)
	expect(t, dag(yes, not(0), b, node(api.DAnd, 2, 1)), `Tolerated b; JumpNone 4; All 0; AndNot; End`, 2, 0)
	// saved
	expect(t, dag(a, not(0), b, node(api.DAnd, 2, 1), node(api.DOr, 3, 1)), `Tolerated a; Not; Save 0; Tolerated b; JumpNone 7; Load 0; And; JumpAll 10; Load 0; Or; End`, 2, 1)
	expect(t, dag(a, not(0), node(api.DAnd, 1, 1)), `Tolerated a; Not; Save 0; Load 0; JumpNone 7; Load 0; And; End`, 2, 1)
	// its kid is saved
	expect(t, dag(a, not(0), node(api.DAnd, 0, 1)), `Tolerated a; Save 0; Load 0; JumpNone 6; Load 0; AndNot; End`, 2, 1)
	expect(t, dag(a, not(0), node(api.DAnd, 1, 0)), `Tolerated a; Save 0; Load 0; Not; JumpNone 7; Load 0; And; End`, 2, 1)
	expect(t, dag(a, not(0), node(api.DOr, 0, 1)), `Tolerated a; Save 0; Load 0; JumpAll 7; Load 0; Not; Or; End`, 2, 1)
	// the one over it is not, and it is; and the other way round
	expect(t, dag(a, not(0), not(1), b, node(api.DAnd, 3, 2, 1)), `Tolerated a; Not; Save 0; Tolerated b; JumpNone 10; Load 0; AndNot; JumpNone 10; Load 0; And; End`, 2, 1)
	expect(t, dag(a, not(0), not(1), b, node(api.DAnd, 3, 2, 2)), `Tolerated a; Not; Not; Save 0; Tolerated b; JumpNone 11; Load 0; And; JumpNone 11; Load 0; And; End`, 2, 1)
}

// P19.1, P19.3: parts that are used once, twice in one part, by several parts; a local's number goes by the places.
func TestSavedParts(t *testing.T) {
	expect(t, dag(a, node(api.DAnd, 0, 0)), `Tolerated a; Save 0; Load 0; JumpNone 6; Load 0; And; End`, 2, 1)
	expect(t, dag(a, node(api.DOr, 0, 0, 0)), `Tolerated a; Save 0; Load 0; JumpAll 9; Load 0; Or; JumpAll 9; Load 0; Or; End`, 2, 1)
	expect(t, dag(a, b, node(api.DAnd, 0, 1), node(api.DOr, 2, 2)), `Tolerated a; JumpNone 4; Tolerated b; And; Save 0; Load 0; JumpAll 9; Load 0; Or; End`, 2, 1)
	// one saved part in another: what is used by one part alone stands in that part's code
	expect(t, dag(a, node(api.DAnd, 0, 0), node(api.DOr, 1, 1)), `Tolerated a; Save 0; Load 0; JumpNone 6; Load 0; And; Save 1; Load 1; JumpAll 11; Load 1; Or; End`, 2, 2)
	// two parts that are alike are two
	expect(t, dag(a, a, node(api.DAnd, 0, 1)), `Tolerated a; JumpNone 4; Tolerated a; And; End`, 2, 0)
	// used in another order than they stand
	expect(t, dag(a, b, node(api.DAnd, 1, 0, 1, 0)), `Tolerated a; Save 0; Tolerated b; Save 1; Load 1; JumpNone 14; Load 0; And; JumpNone 14; Load 1; And; JumpNone 14; Load 0; And; End`, 2, 2)
	expect(t, dag(c, a, b, node(api.DOr, 0, 2), node(api.DAnd, 3, 1, 2)), `Tolerated b; Save 0; Tolerated c; JumpAll 6; Load 0; Or; JumpNone 12; Tolerated a; And; JumpNone 12; Load 0; And; End`, 2, 1)
}

// P19.1: DTrue and DFalse are never saved, however often they are used.
func TestConstantsAreNotSaved(t *testing.T) {
	expect(t, dag(yes, no, node(api.DAnd, 0, 0, 1)), `All 0; JumpNone 7; All 0; And; JumpNone 7; None 0; And; End`, 2, 0)
	expect(t, dag(no, node(api.DNot, 0), node(api.DOr, 0, 1, 0)), `None 0; JumpAll 8; None 0; Not; Or; JumpAll 8; None 0; Or; End`, 2, 0)
	expect(t, dag(yes, node(api.DNot, 0), node(api.DOr, 1, 1)), `All 0; Not; Save 0; Load 0; JumpAll 7; Load 0; Or; End`, 2, 1)
	expect(t, dag(forPods(yes), leaf(near("z", 0)), leaf(near("y", 0)), node(api.DAnd, 1, 2)), `All 1; Near z; JumpNone 6; All 1; Near y; And; End`, 2, 0)
	expect(t, dag(forPods(no), leaf(near("z", 0)), leaf(counted(0, 1)), node(api.DAnd, 1, 2)), `None 1; Near z; JumpNone 7; None 1; Nums 1; CountIn rack; And; End`, 3, 0)
	p := check(t, dag(yes, node(api.DAnd, make([]int, 2000)...)))
	if len(p.Code) != 1+1999*3+1 || p.Locals != 0 || p.Depth != 2 || strings.Count(toldCode(p), "All 0") != 2000 {
		t.Errorf("%d instructions, %d locals", len(p.Code), p.Locals)
	}
}

// P19.1: selectors of LitNear and of TermCount, for one literal and for several; a part as a kid and as a selector.
func TestSelectors(t *testing.T) {
	const sel = `Texts 1; Label 1 x; `
	zone, rack, count := leaf(near("z", 0)), leaf(near("y", 0)), leaf(rel(countTerm("z", 0), api.CmpLe, 2))
	expect(t, dag(s, zone), sel+`Near z; End`, 1, 0)
	expect(t, dag(s, count), sel+`Num 2; Count z <=; End`, 2, 0)
	expect(t, dag(s, zone, rack, node(api.DOr, 1, 2)), sel+`Save 0; Load 0; Near z; JumpAll 9; Load 0; Near y; Or; End`, 2, 1)
	expect(t, dag(s, zone, count, node(api.DAnd, 2, 1)), sel+`Save 0; Load 0; Num 2; Count z <=; JumpNone 10; Load 0; Near z; And; End`, 2, 1)
	expect(t, dag(s, count, node(api.DNot, 1)), sel+`Num 2; Count z <=; Not; End`, 2, 0)
	// the literal is saved, its selector is used once
	expect(t, dag(s, zone, node(api.DAnd, 1, 1)), sel+`Near z; Save 0; Load 0; JumpNone 8; Load 0; And; End`, 2, 1)
	// a part for pods as a kid and as a selector
	expect(t, dag(s, forPods(node(api.DNot, 0)), zone, leaf(near("z", 1)), node(api.DOr, 2, 3)), sel+`Save 0; Load 0; Near z; JumpAll 10; Load 0; Not; Near z; Or; End`, 2, 1)
	// locals of both kinds, by their places
	expect(t, dag(a, s, leaf(near("z", 1)), leaf(near("y", 1)), node(api.DAnd, 0, 2, 0, 3)), `Tolerated a; Save 0; Texts 1; Label 1 x; Save 1; Load 0; JumpNone 17; Load 1; Near z; And; JumpNone 17; Load 0; And; JumpNone 17; Load 1; Near y; And; End`, 2, 2)
}

// P19.1: a selector of a set literal without elements is reached and used, though nothing asks for it: it is saved where it has two uses, and else it is nowhere.
func TestSelectorsThatAreNotAsked(t *testing.T) {
	const sel = `Texts 1; Label 1 x; `
	none := leaf(counted(0))
	expect(t, dag(s, none), `None 0; End`, 1, 0)
	expect(t, dag(s, none, leaf(near("z", 0)), node(api.DOr, 1, 2)), sel+`Save 0; None 0; JumpAll 8; Load 0; Near z; Or; End`, 2, 1)
	expect(t, dag(s, none, none, node(api.DOr, 1, 2)), sel+`Save 0; None 0; JumpAll 7; None 0; Or; End`, 2, 1)
	expect(t, dag(s, forPods(node(api.DAnd, 0, 0)), leaf(counted(1))), sel+`Save 0; None 0; End`, 1, 1)
	expect(t, dag(s, forPods(node(api.DNot, 0)), leaf(counted(1)), leaf(near("z", 0)), node(api.DAnd, 2, 3)), sel+`Save 0; None 0; JumpNone 8; Load 0; Near z; And; End`, 2, 1)
	expect(t, dag(s, u, forPods(node(api.DAnd, 0, 1)), leaf(counted(2)), node(api.DAnd, 3, 3)), `None 0; Save 0; Load 0; JumpNone 6; Load 0; And; End`, 2, 1)
}

// P19.1: parts that the Root doesn't reach are nowhere, and what only they use isn't used.
func TestPartsThatAreNotReached(t *testing.T) {
	expect(t, rooted(0, a, b), `Tolerated a; End`, 1, 0)
	expect(t, rooted(0, a, node(api.DNot, 0), node(api.DAnd, 0, 1)), `Tolerated a; End`, 1, 0)
	expect(t, rooted(1, a, node(api.DNot, 0), node(api.DAnd, 0, 1)), `Tolerated a; Not; End`, 1, 0)
	expect(t, rooted(2, a, b, node(api.DAnd, 0, 1), node(api.DOr, 0, 1), node(api.DNot, 3)), `Tolerated a; JumpNone 4; Tolerated b; And; End`, 2, 0)
	expect(t, dag(a, node(api.DAnd, 0, 0), b), `Tolerated b; End`, 1, 0)
	expect(t, dag(a, node(api.DNot, 0), node(api.DNot, 0)), `Tolerated a; Not; End`, 1, 0)
	expect(t, rooted(3, a, node(api.DAnd, 0, 0), node(api.DOr, 1, 1), node(api.DNot, 0)), `Tolerated a; Not; End`, 1, 0)
	expect(t, rooted(1, s, leaf(near("z", 0)), leaf(near("y", 0)), forPods(node(api.DNot, 0))), `Texts 1; Label 1 x; Near z; End`, 1, 0)
	expect(t, rooted(3, s, u, forPods(node(api.DAnd, 0, 1)), leaf(near("z", 2)), leaf(near("z", 1)), node(api.DAnd, 3, 4)), `Texts 1; Label 1 x; JumpNone 6; Texts 2; Name 1; And; Near z; End`, 2, 0)
	// the numbers of locals leave none out
	expect(t, dag(b, node(api.DAnd, 0, 0), a, node(api.DOr, 2, 2)), `Tolerated a; Save 0; Load 0; JumpAll 6; Load 0; Or; End`, 2, 1)
	// whatever stands behind the Root
	for _, more := range [][]api.DagPart{{node(api.DAnd, 2, 2)}, {node(api.DNot, 0), node(api.DOr, 3, 1, 2)}, {s, leaf(near("z", 3)), node(api.DAnd, 2, 4)}} {
		first, second := check(t, dag(a, b, node(api.DOr, 0, 1))), check(t, rooted(2, append([]api.DagPart{a, b, node(api.DOr, 0, 1)}, more...)...))
		if !sameProgram(first, second) {
			t.Errorf("%s, then %s", told(first), told(second))
		}
	}
}
