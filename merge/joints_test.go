package merge_test

import (
	"testing"

	"berth/api"
)

// P17.1: M1 and M2, for parts that stand by themselves. (expect tries the negation, too.)
func TestPartsByThemselves(t *testing.T) {
	same(t, plan(yes))
	for _, w := range []twig{a, zone("a"), zone(""), texts(nameTerm(api.OfPod), "", "a", "b"), cores(1), cores(-most, most), coresTo(3), coresTo(-most - 1), coresFrom(most + 1), nums(capTerm("cpu"), 0), tol(""), inTaints(textTerm("a")), beside(coresTerm, api.CmpLt, numTerm(api.OfPod, "n"))} {
		same(t, plan(w))
	}
	for _, w := range []twig{zone(), cores(), texts(nameTerm(api.OfPod)), nums(capTerm("cpu")), nums(numTerm(api.OfPod, "n"))} {
		expect(t, plan(w), plan(no))
	}
	same(t, plan(near("rack", 0), yes))
	expect(t, plan(near("rack", 0), no), plan(no))
	expect(t, plan(near("rack", 0), not(itHas("x", "1"))), plan(near("rack", 0), not(itHas("x", "1"))))
}

// P17.1, P17.4: flattening, the first step of M3, keeps the order, however deep the kids stand.
func TestFlattened(t *testing.T) {
	flat := plan(and(a, b, c, d))
	same(t, flat)
	for _, w := range []twig{and(a, b, and(c, d)), and(and(a, b), c, d), and(a, and(b, c), d), and(and(a, b), and(c, d)), and(and(and(a, b), c), d), and(a, and(b, and(c, d))), and(a, and(and(b, c), d))} {
		expect(t, plan(w), flat)
	}
	same(t, plan(and(a, or(b, c), d)))
	same(t, plan(and(a, or(b, and(c, d)))))
	expect(t, plan(and(a, or(b, and(c, and(d, or(a, or(b, not(c)))))))), plan(and(a, or(b, and(c, d, or(a, b, not(c)))))))
	// what folds to a part of the kind above it stands in that one's place
	expect(t, plan(and(a, or(no, and(b, c)), d)), flat)
	expect(t, plan(and(a, or(and(b, c), and(b, c, d)), d)), flat)
}

// P17.1, P17.4: constants, the second step of M3.
func TestConstants(t *testing.T) {
	expect(t, plan(and(a, yes, b)), plan(and(a, b)))
	expect(t, plan(and(a, no, b)), plan(no))
	expect(t, plan(and(no, yes)), plan(no))
	expect(t, plan(and(yes, yes, yes)), plan(yes))
	expect(t, plan(and(no, no)), plan(no))
	expect(t, plan(and(yes, a)), plan(a))
	expect(t, plan(and(a, or(b, yes))), plan(a))
	expect(t, plan(and(a, or(no, no))), plan(no))
	expect(t, plan(and(a, or(no, b))), plan(and(a, b)))
	expect(t, plan(and(or(a, yes), or(b, yes))), plan(yes))
	expect(t, plan(or(a, and(b, or(c, and(d, no))))), plan(or(a, and(b, c))))
}

// P17.1: sets without values and nears whose selectors are or become false fold as the constants that they are.
func TestWhatIsNever(t *testing.T) {
	x, itA := labelTerm(api.OfIt, "x"), inKeys(textTerm("a"), api.OfIt)
	never := and(texts(x, "1"), texts(x, "2"))
	for _, w := range []twig{no, texts(x), never, or(no, never), and(itA, not(itA))} {
		for _, l := range []twig{zone(), cores(), near("rack", 0)} {
			expect(t, plan(or(a, l), w), plan(a))
			expect(t, plan(and(a, l), w), plan(no))
			expect(t, plan(or(a, not(l)), w), plan(yes))
			expect(t, plan(and(a, not(l)), w), plan(a))
			expect(t, plan(and(a, or(b, and(c, l))), w), plan(and(a, b)))
		}
		// a count of pods that are never selected stays: it is undefined where the key is missing
		got := plan(and(a, counted(0, 0)), no)
		expect(t, plan(and(a, counted(0, 0)), w), got)
		expect(t, plan(and(a, not(near("rack", 0)), counted(0, 0)), w), got)
	}
	always := or(texts(x, "1"), not(texts(x, "1")))
	expect(t, plan(and(a, near("rack", 0)), always), plan(and(a, near("rack", 0)), yes))
}

// P17.1, P17.4: contradiction, the fourth step of M3, of literals of each kind that isn't merged.
func TestContradiction(t *testing.T) {
	m := numTerm(api.OfPod, "m")
	for _, w := range []twig{a, tol("x"), inTaints(textTerm("x")), near("rack", 0), beside(coresTerm, api.CmpLt, m), beside(labelTerm(api.OfNode, "zone"), api.CmpEq, nameTerm(api.OfPod)), beside(countTerm("rack", 0), api.CmpGe, m)} {
		p := plan(and(w, not(w)), yes)
		expect(t, p, plan(no))
		p.Main = list(and(b, w, c, not(w), d))
		expect(t, p, plan(no))
		p.Main = list(or(b, and(not(w), c, w)))
		expect(t, p, plan(b))
		p.Main = list(and(b, and(w, c), and(d, not(w))))
		expect(t, p, plan(no))
	}
	// of parts that aren't literals it isn't asked
	same(t, plan(and(or(a, b), not(a), not(b))))
	same(t, plan(or(and(a, b), not(a), not(b))))
	// nor are literals of unlike things held against each other
	same(t, plan(and(beside(coresTerm, api.CmpLt, m), not(beside(coresTerm, api.CmpLe, m)))))
	same(t, plan(and(near("rack", 0), not(near("zone", 0))), yes))
	same(t, plan(and(near("rack", 0), not(near("rack", 1))), yes, itHas("x", "1")))
	// beside ranges that stay, and that are never true
	expect(t, plan(and(coresFrom(4), a, zone("a"), not(a))), plan(no))
	expect(t, plan(and(coresFrom(4), a, coresTo(3), not(a))), plan(no))
	expect(t, plan(and(zone("a", "b"), not(zone("a", "b")), a)), plan(no))
	expect(t, plan(or(coresTo(3), not(coresTo(3)), a)), plan(yes))
}

// P17.1, P17.4: absorption, the fifth step of M3.
func TestAbsorption(t *testing.T) {
	for _, x := range []struct{ w, want twig }{
		{and(a, a), a},
		{and(a, b, a, b, a), and(a, b)},
		{and(not(a), b, not(a)), and(not(a), b)},
		{and(a, or(a, b)), a},
		{and(or(a, b), a), a},
		{and(or(a, b), c, a), and(c, a)},
		{and(a, or(b, not(a))), and(a, or(b, not(a)))},
		{and(or(a, b), or(a, b)), or(a, b)},
		{and(or(a, b), or(b, a)), or(a, b)},
		{and(or(b, a), c, or(a, b)), and(or(b, a), c)},
		{and(or(a, b, c), or(c, b), d), and(or(c, b), d)},
		{and(or(a, b), or(b, c), or(a, c)), and(or(a, b), or(b, c), or(a, c))},
		{and(or(a, b), or(a, b, c), or(d, c, b, a)), or(a, b)},
		// absorbed by what goes itself
		{and(or(d, c, b, a), or(a, b, c), or(a, b)), or(a, b)},
		{and(or(c, b, a), or(b, a), or(a, b), or(a, b, c)), or(b, a)},
		{and(or(c, b, a), or(b, a), a), a},
		// branches that aren't literals, alike only in the same order
		{and(or(and(a, b), c), or(d, c, and(a, b))), or(and(a, b), c)},
		{and(or(and(a, b), c), or(d, c, and(b, a))), and(or(and(a, b), c), or(d, c, and(b, a)))},
		{and(or(and(a, b), c), or(c, and(a, b, d))), and(or(and(a, b), c), or(c, and(a, b, d)))},
		{and(or(and(a, or(b, c)), d), or(d, and(a, or(b, c)))), or(and(a, or(b, c)), d)},
		{and(or(and(a, or(b, c)), d), or(d, and(a, or(c, b)))), and(or(and(a, or(b, c)), d), or(d, and(a, or(c, b))))},
		// kids alike that stand apart at first
		{and(a, or(b, and(c, d)), and(d, or(b, and(c, d)))), and(a, or(b, and(c, d)), d)},
		// ranges as branches, and as they have been merged
		{and(zone("a"), or(zone("a"), c)), zone("a")},
		{and(zone("a", "b"), or(zone("a"), c, zone("b"))), zone("a", "b")},
		{and(zone("a", "b"), or(zone("a"), c), not(zone("b"))), zone("a")},
		{and(zone("a"), or(zone("a", "b"), c)), and(zone("a"), or(zone("a", "b"), c))},
		{and(coresFrom(4), coresTo(9), or(a, coresTo(9))), and(coresFrom(4), coresTo(9))},
		{and(coresFrom(4), not(coresFrom(10)), or(a, coresTo(9))), and(coresFrom(4), coresTo(9))},
	} {
		expect(t, plan(x.w), plan(x.want))
	}
}

// P17.1: what is left: none, one, more.
func TestWhatIsLeft(t *testing.T) {
	expect(t, plan(and(yes, not(zone()), or(yes, a))), plan(yes))
	expect(t, plan(and(yes, or(b, a), not(zone()))), plan(or(b, a)))
	expect(t, plan(or(c, and(yes, or(b, a)))), plan(or(c, b, a)))
	expect(t, plan(or(c, and(or(b, a), or(a, b)))), plan(or(c, b, a)))
	expect(t, plan(or(zone("a"), and(or(zone("b"), a), or(a, zone("b"))))), plan(or(zone("a", "b"), a)))
}

// P17.1: the steps under one another, three deep.
func TestStepsTogether(t *testing.T) {
	deep := and(a, or(b, and(zone("a", "b"), c, and(not(zone("b")), yes, or(c, d)))), or(no, and(a, d)))
	expect(t, plan(deep), plan(and(a, or(b, and(zone("a"), c)), d)))
	// a range in the middle falls to false, and all round it folds
	deep = or(a, and(b, or(and(coresFrom(5), c, coresTo(4)), and(d, not(d)))))
	expect(t, plan(deep), plan(a))
	// a part becomes alike to another only as it has been made
	deep = and(or(a, and(b, or(c, no))), or(and(b, yes, c), a, zone()))
	expect(t, plan(deep), plan(or(a, and(b, c))))
	// a part becomes a literal, and that contradicts another
	expect(t, plan(and(not(a), b, or(a, and(a, c)))), plan(no))
	// a part becomes a range literal, and is merged with others
	expect(t, plan(and(zone("a", "b"), c, or(zone("b"), zone("c")))), plan(and(zone("b"), c)))
	expect(t, plan(and(coresFrom(1), or(coresTo(3), and(a, not(a)), coresTo(5)))), plan(and(coresFrom(1), coresTo(5))))
	// the order of the steps: ranges are merged ahead of what they might have absorbed
	expect(t, plan(and(zone("a", "b"), or(zone("a", "b"), a), zone("b", "c"))), plan(and(zone("b"), or(zone("a", "b"), a))))
}

// P17.1: parts that differ in one thing alone are not alike: none absorbs the other.
func TestNearlyAlike(t *testing.T) {
	m, unkeyed := numTerm(api.OfPod, "m"), labelTerm(api.OfNode, "")
	own := func(key string) api.Term { return labelTerm(api.OfPod, key) }
	for _, x := range [][2]twig{
		{a, not(a)},
		{tol("x"), near("x", 0)},
		{tol("x"), tol("y")},
		{near("x", 0), near("x", 1)},
		{near("x", 0), near("y", 0)},
		{inTaints(textTerm("x")), inTaints(own("x"))},
		{inTaints(textTerm("")), inTaints(nameTerm(api.OfPod))},
		{inKeys(textTerm("x"), api.OfNode), inKeys(textTerm("x"), api.OfPod)},
		{inKeys(textTerm("x"), api.OfNode), inTaints(textTerm("x"))},
		{beside(capTerm("x"), api.CmpLe, m), beside(countTerm("x", 0), api.CmpLe, m)},
		{beside(countTerm("x", 1), api.CmpLe, m), beside(countTerm("x", 0), api.CmpLe, m)},
		{beside(coresTerm, api.CmpLe, m), beside(coresTerm, api.CmpLt, m)},
		{beside(coresTerm, api.CmpLe, m), beside(coresTerm, api.CmpLe, numTerm(api.OfPod, "n"))},
		{beside(m, api.CmpLe, m), beside(numTerm(api.OfNode, "m"), api.CmpLe, m)},
		{beside(unkeyed, api.CmpEq, own("x")), beside(nameTerm(api.OfNode), api.CmpEq, own("x"))},
		{beside(unkeyed, api.CmpEq, own("")), beside(unkeyed, api.CmpEq, nameTerm(api.OfPod))},
		{zone("a", "bc"), zone("ab", "c")},
		{zone("a", "b"), zone("ab")},
		{zone("a"), zone("a", "b")},
		{cores(-1, 12), cores(-11, 2)},
		{cores(1), cores(1, 2)},
		{coresFrom(1), coresTo(1)},
		{coresFrom(1), coresFrom(2)},
		{coresFrom(0), cores(0)},
		{and(c, d), and(d, c)},
		{and(c, d), and(c, d, b)},
		{and(c, d), and(c, not(d))},
	} {
		e, f := hasKey("e"), hasKey("f")
		for _, w := range []twig{and(or(e, f, x[0]), or(f, e, x[1])), and(or(e, f, x[1]), or(f, e, x[0]))} {
			if got := check(t, plan(w, yes, itHas("x", "1"))); len(got.Main) < 6 {
				t.Errorf("%s and %s are taken for alike: %s", toldList(list(x[0])), toldList(list(x[1])), short(got))
			}
		}
	}
}
