package merge_test

import (
	"fmt"
	"testing"

	"berth/api"
)

// P17.1: M4 with sets of texts.
func TestSetsOfTexts(t *testing.T) {
	for _, x := range []struct{ w, want twig }{
		{and(zone("a", "b", "c"), zone("b", "c", "d")), zone("b", "c")},
		{and(zone("b", "c", "d"), zone("a", "b", "c"), zone("c")), zone("c")},
		{and(zone("a", "b"), zone("c", "d")), no},
		{and(zone("a", "b"), not(zone("a", "c"))), zone("b")},
		{and(not(zone("a", "c")), zone("a", "b")), zone("b")},
		{and(not(zone("a")), zone("a", "b", "c"), not(zone("c"))), zone("b")},
		{and(zone("a"), not(zone("a", "b"))), no},
		{and(not(zone("b", "d")), not(zone("a", "c"))), not(zone("a", "b", "c", "d"))},
		{and(not(zone("b")), not(zone("b")), not(zone("", "b"))), not(zone("", "b"))},
		{or(zone("b"), zone("a")), zone("a", "b")},
		{or(zone("b"), not(zone("a", "b"))), not(zone("a"))},
		{or(not(zone("a", "b")), zone("a", "b")), yes},
		{and(zone("B", "a", "\xff"), zone("B", "\xff")), zone("B", "\xff")},
	} {
		expect(t, plan(x.w), plan(x.want))
	}
}

// P17.1: M4 with sets of numbers.
func TestSetsOfNumbers(t *testing.T) {
	for _, x := range []struct{ w, want twig }{
		{and(cores(1, 2, 3), cores(2, 3, 4)), cores(2, 3)},
		{and(cores(1), cores(2)), no},
		{and(cores(-5, 10, 20), not(cores(10))), cores(-5, 20)},
		{and(not(cores(10, 20)), not(cores(-5, 10, 100))), not(cores(-5, 10, 20, 100))},
		{and(cores(1, 5, 9), coresFrom(5)), cores(5, 9)},
		{and(cores(1, 5, 9), coresTo(5)), cores(1, 5)},
		{and(cores(1, 5, 9), not(coresFrom(5))), cores(1)},
		{and(cores(1, 5, 9), not(coresTo(5))), cores(9)},
		{and(coresFrom(2), cores(1, 5, 9), not(coresFrom(9)), cores(1, 5, 6)), cores(5)},
		{and(coresFrom(6), cores(1, 5, 9), coresTo(8)), no},
		{and(coresFrom(6), coresTo(2), cores(1, 5, 9)), no},
		{and(not(cores(5)), coresTo(5), cores(5, 6)), no},
		{or(cores(2), cores(1)), cores(1, 2)},
		{or(not(cores(1, 2)), cores(1)), not(cores(2))},
		{or(not(cores(1, 2)), coresTo(1)), not(cores(2))},
		{or(not(cores(1, 2)), coresTo(1), coresFrom(2)), yes},
	} {
		expect(t, plan(x.w), plan(x.want))
	}
}

// P17.1: M4 with bounds and negated sets: the greatest lo, the least hi, both kinds of each.
func TestBounds(t *testing.T) {
	for _, x := range []struct{ w, want twig }{
		// only a lo, only a hi
		{and(coresFrom(4), coresFrom(7)), coresFrom(7)},
		{and(coresFrom(7), not(coresTo(3))), coresFrom(7)},
		{and(coresFrom(4), not(coresTo(7))), coresFrom(8)},
		{and(not(coresTo(4)), not(coresTo(7))), not(coresTo(7))},
		{and(coresTo(4), coresTo(7)), coresTo(4)},
		{and(coresTo(4), not(coresFrom(7))), coresTo(4)},
		{and(coresTo(7), not(coresFrom(4))), coresTo(3)},
		{and(not(coresFrom(4)), not(coresFrom(7))), not(coresFrom(4))},
		// both: apart, beside, equal, past each other
		{and(coresTo(9), coresFrom(4)), and(coresFrom(4), coresTo(9))},
		{and(coresFrom(4), coresTo(5)), and(coresFrom(4), coresTo(5))},
		{and(coresFrom(4), coresTo(4)), cores(4)},
		{and(coresFrom(4), coresTo(3)), no},
		{and(coresFrom(4), coresTo(-4)), no},
		{and(coresFrom(4), not(coresFrom(5))), cores(4)},
		{and(not(coresTo(3)), coresTo(4)), cores(4)},
		{and(not(coresTo(3)), coresTo(3)), no},
		{and(not(coresTo(3)), not(coresFrom(9))), and(not(coresTo(3)), not(coresFrom(9)))},
		{and(not(coresTo(3)), not(coresFrom(5))), and(not(coresTo(3)), not(coresFrom(5)))},
		{and(not(coresTo(3)), not(coresFrom(4))), and(not(coresTo(3)), not(coresFrom(4)))},
		{and(not(coresTo(9)), not(coresFrom(2))), and(not(coresTo(9)), not(coresFrom(2)))},
		{and(not(coresTo(3)), not(coresFrom(9)), coresTo(9)), and(coresFrom(4), coresTo(8))},
		{and(not(coresFrom(9)), not(coresTo(3)), coresFrom(-9)), and(coresFrom(4), coresTo(8))},
		// with sets: within, beside and outside
		{and(coresFrom(4), not(cores(1, 2, 3))), coresFrom(4)},
		{and(coresFrom(4), not(cores(1, 6))), and(coresFrom(4), not(cores(6)))},
		{and(coresTo(4), not(cores(1, 6))), and(coresTo(4), not(cores(1)))},
		{and(not(cores(6)), coresFrom(4)), and(coresFrom(4), not(cores(6)))},
		{and(not(cores(2, 6)), not(coresTo(3)), not(cores(7))), and(not(coresTo(3)), not(cores(6, 7)))},
		{and(not(cores(2, 6)), not(coresFrom(6))), and(not(coresFrom(6)), not(cores(2)))},
		{and(coresFrom(1), coresTo(9), not(cores(0, 5, 10))), and(coresFrom(1), coresTo(9), not(cores(5)))},
		{and(coresFrom(9), coresTo(1), not(cores(5))), no},
		{and(not(coresTo(8)), not(coresFrom(2)), not(cores(5))), and(not(coresTo(8)), not(coresFrom(2)))},
		{and(coresFrom(4), coresTo(9), not(cores(4, 6, 12))), and(coresFrom(5), coresTo(9), not(cores(6)))},
	} {
		expect(t, plan(x.w), plan(x.want))
	}
}

// P17.1: M4: the ends run over the values of X: over some, over all, past each other.
func TestEndsRun(t *testing.T) {
	for _, x := range []struct{ w, want twig }{
		{and(coresFrom(1), not(cores(1, 2, 3))), coresFrom(4)},
		{and(coresFrom(1), not(cores(1, 2, 4))), and(coresFrom(3), not(cores(4)))},
		{and(not(coresTo(0)), not(cores(1, 2, 4))), and(not(coresTo(2)), not(cores(4)))},
		{and(coresTo(3), not(cores(1, 2, 3))), coresTo(0)},
		{and(coresTo(3), not(cores(0, 2, 3))), and(coresTo(1), not(cores(0)))},
		{and(not(coresFrom(4)), not(cores(0, 2, 3))), and(not(coresFrom(2)), not(cores(0)))},
		{and(coresFrom(1), coresTo(9), not(cores(1, 2, 5, 8, 9))), and(coresFrom(3), coresTo(7), not(cores(5)))},
		{and(coresFrom(1), coresTo(3), not(cores(1, 2, 3))), no},
		{and(coresFrom(1), coresTo(3), not(cores(1, 3))), cores(2)},
		{and(coresFrom(1), coresTo(3), not(cores(1, 2))), cores(3)},
		{and(coresFrom(1), coresTo(3), not(cores(2, 3))), cores(1)},
		{and(coresFrom(1), coresTo(4), not(cores(1, 4))), and(coresFrom(2), coresTo(3))},
		{and(coresFrom(1), coresTo(1), not(cores(1))), no},
		// where the undefined passes, they stand past each other
		{and(not(coresTo(0)), not(coresFrom(4)), not(cores(1, 2, 3))), and(not(coresTo(3)), not(coresFrom(4)))},
		{and(not(coresTo(0)), not(coresFrom(4)), not(cores(1, 3))), and(not(coresTo(1)), not(coresFrom(3)))},
		{and(not(coresTo(0)), not(coresFrom(2)), not(cores(1))), and(not(coresTo(1)), not(coresFrom(2)))},
		// neither end: X stays as it is
		{and(not(cores(1, 2)), not(cores(0, 3))), not(cores(0, 1, 2, 3))},
	} {
		expect(t, plan(x.w), plan(x.want))
	}
}

// P17.1, R1: numbers at both ends of what a plan can hold.
func TestNumbersAtTheEnds(t *testing.T) {
	for _, x := range []struct{ w, want twig }{
		{and(coresFrom(most+1), a, coresFrom(most)), and(coresFrom(most+1), a)},
		{and(coresTo(-most-1), a, coresTo(-most)), and(coresTo(-most-1), a)},
		{and(not(coresTo(most)), coresFrom(0)), coresFrom(most + 1)},
		{and(not(coresFrom(-most)), coresTo(0)), coresTo(-most - 1)},
		{and(not(coresTo(most)), not(coresTo(0))), not(coresTo(most))},
		{and(not(coresFrom(-most)), not(coresFrom(0))), not(coresFrom(-most))},
		{and(coresFrom(most), coresTo(most)), cores(most)},
		{and(coresFrom(-most), coresTo(-most)), cores(-most)},
		{and(coresFrom(most), not(cores(most))), coresFrom(most + 1)},
		{and(coresTo(-most), not(cores(-most))), coresTo(-most - 1)},
		{and(not(coresTo(most-1)), not(cores(most))), not(coresTo(most))},
		{and(not(coresFrom(1-most)), not(cores(-most))), not(coresFrom(-most))},
		{and(coresFrom(most+1), coresTo(most)), no},
		{and(coresFrom(-most), coresTo(-most-1)), no},
		{and(not(coresTo(-most-1)), coresFrom(-most)), coresFrom(-most)},
		{and(not(coresFrom(most+1)), coresTo(most)), coresTo(most)},
		{and(not(coresTo(-most-1)), not(coresFrom(most+1))), and(not(coresTo(-most-1)), not(coresFrom(most+1)))},
		{and(not(coresTo(most)), not(coresFrom(-most))), and(not(coresTo(most)), not(coresFrom(-most)))},
		{and(coresFrom(-most), coresTo(most), not(cores(-most, 0, most))), and(coresFrom(1-most), coresTo(most-1), not(cores(0)))},
		{and(cores(-most, most), coresFrom(most)), cores(most)},
		{and(cores(-most, most), coresFrom(most+1)), no},
		{and(cores(-most, most), coresTo(-most-1)), no},
		{and(not(cores(-most, most)), not(cores(0))), not(cores(-most, 0, most))},
	} {
		expect(t, plan(x.w), plan(x.want))
	}
}

// P17.1: what M4 gives stands in the place of the first range literal of its Term; those of other Terms, and other kids, stay where they are.
func TestRangesApart(t *testing.T) {
	disks, other := numTerm(api.OfNode, "disks"), labelTerm(api.OfNode, "z")
	for _, x := range []struct{ w, want twig }{
		{and(a, coresFrom(4), b, coresTo(9), c, not(cores(6)), d), and(a, coresFrom(4), coresTo(9), not(cores(6)), b, c, d)},
		{and(a, not(cores(6)), b, coresTo(9), c, coresFrom(4), d), and(a, coresFrom(4), coresTo(9), not(cores(6)), b, c, d)},
		{and(coresTo(9), zone("a", "b"), coresFrom(4), not(zone("a")), a), and(coresFrom(4), coresTo(9), zone("b"), a)},
		{and(rel(disks, api.CmpGe, 1), coresTo(9), rel(disks, api.CmpGe, 3), coresTo(8)), and(rel(disks, api.CmpGe, 3), coresTo(8))},
		{and(coresFrom(4), rel(disks, api.CmpLe, 3)), and(coresFrom(4), rel(disks, api.CmpLe, 3))},
		{and(zone("a"), texts(other, "b")), and(zone("a"), texts(other, "b"))},
		{and(zone("1"), cores(1), texts(nameTerm(api.OfNode), "1"), texts(nameTerm(api.OfPod), "1")), and(zone("1"), cores(1), texts(nameTerm(api.OfNode), "1"), texts(nameTerm(api.OfPod), "1"))},
		{and(nums(numTerm(api.OfPod, "cores"), 1), cores(2)), and(nums(numTerm(api.OfPod, "cores"), 1), cores(2))},
		{and(nums(capTerm("cores"), 1), cores(2)), and(nums(capTerm("cores"), 1), cores(2))},
		{and(a, coresFrom(4), or(b, coresTo(9))), and(a, coresFrom(4), or(b, coresTo(9)))},
		{and(coresFrom(1), and(a, coresTo(9)), b), and(coresFrom(1), coresTo(9), a, b)},
	} {
		expect(t, plan(x.w), plan(x.want))
	}
}

// P17.1: M4 of capacities, and of the pod's own terms.
func TestOtherTerms(t *testing.T) {
	for _, term := range []api.Term{capTerm("cpu"), numTerm(api.OfPod, "n"), countTerm("rack", 0)} {
		p := plan(and(rel(term, api.CmpGe, 0), a, rel(term, api.CmpLe, 7), not(nums(term, 0, 3)), rel(term, api.CmpGe, -1)), yes)
		want := plan(and(rel(term, api.CmpGe, 1), rel(term, api.CmpLe, 7), not(nums(term, 3)), a))
		if term.Kind == api.TermCount {
			want.Sels = p.Sels
		}
		expect(t, p, want)
	}
}

// P17.1 to P17.4: all groups of up to three range literals of one Term, out of a handful of sets and bounds of both signs, in every order, with their meaning at each number and where the term is undefined.
func TestAllGroups(t *testing.T) {
	var pool []twig
	for _, w := range []twig{coresFrom(1), coresFrom(2), coresTo(1), coresTo(3), cores(1), cores(0, 2), cores(1, 2, 3)} {
		pool = append(pool, w, not(w))
	}
	sawNone := 0
	for _, x := range pool {
		for _, y := range pool {
			checkGroup(t, x, y)
			for _, z := range pool {
				if merged := checkGroup(t, x, y, z); merged.Main[0].Kind == api.PFalse {
					sawNone++
				}
			}
		}
	}
	if sawNone < 100 {
		t.Errorf("only %d groups are none", sawNone)
	}
}

// checkGroup checks a group as a PAnd and as a POr; it answers what the PAnd is made into.
func checkGroup(t *testing.T, group ...twig) api.Plan {
	t.Helper()
	var made api.Plan
	for _, w := range []twig{or(group...), and(group...)} {
		p := plan(w)
		made = check(t, p)
		for n := -2; n < 7; n++ {
			seen := api.Node{Labels: []api.Label{{Key: "cores", Value: fmt.Sprint(n)}}}
			if n == 6 {
				seen.Labels = nil
			}
			if (sight{plan: p, node: seen}).holds(p.Main) != (sight{plan: made, node: seen}).holds(made.Main) {
				t.Fatalf("%s and %s mean other things at %v", short(p), short(made), seen)
			}
		}
	}
	return made
}
