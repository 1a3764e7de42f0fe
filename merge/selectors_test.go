package merge_test

import (
	"testing"

	"berth/api"
)

// P17.1, P17.4: M5: selectors that are alike as they stand.
func TestAlikeSelectors(t *testing.T) {
	s, u := itHas("x", "1"), itHas("x", "2")
	expect(t, plan(or(near("a", 3), near("b", 1)), u, s, u, s), plan(or(near("a", 0), near("b", 0)), s))
	expect(t, plan(and(near("a", 0), near("a", 1)), s, s), plan(near("a", 0), s))
	expect(t, plan(and(near("a", 0), not(near("a", 1))), s, s), plan(no))
	expect(t, plan(and(near("a", 0), near("a", 1)), s, u), plan(and(near("a", 0), near("a", 1)), s, u))
	expect(t, plan(and(near("a", 0), near("a", 1)), s, not(s)), plan(and(near("a", 0), near("a", 1)), s, not(s)))
	expect(t, plan(and(near("a", 0), near("a", 1)), or(s, a2), or(a2, s)), plan(and(near("a", 0), near("a", 1)), or(s, a2), or(a2, s)))
	expect(t, plan(and(near("a", 0), near("a", 1)), yes, yes), plan(near("a", 0), yes))
}

var a2 = inKeys(textTerm("a"), api.OfIt)

// P17.1, P17.4: M5: selectors that are alike only as they have been made.
func TestSelectorsAsTheyAreMade(t *testing.T) {
	s, u := itHas("x", "1"), itHas("x", "2")
	for _, w := range []twig{and(s, not(u)), or(s, no), and(s, s), or(s, and(s, u)), and(or(s, u), not(u), yes)} {
		expect(t, plan(and(near("a", 0), near("b", 1)), w, s), plan(and(near("a", 0), near("b", 0)), s))
		expect(t, plan(and(near("a", 0), near("b", 1)), s, w), plan(and(near("a", 0), near("b", 0)), s))
		expect(t, plan(and(near("a", 0), not(near("a", 1))), w, s), plan(no))
		expect(t, plan(and(counted(0, 1, 2), counted(1, 2, 3)), w, s), plan(counted(0, 2), s))
	}
	// each is made by the rules, three deep
	deep := or(s, and(a2, or(u, and(u, s), no), a2))
	expect(t, plan(near("a", 0), deep), plan(near("a", 0), or(s, and(a2, u))))
	expect(t, plan(near("a", 0), or(s, not(s))), plan(near("a", 0), yes))
	expect(t, plan(near("a", 0), or(s, not(and(s, u)))), plan(near("a", 0), yes))
}

// P17.1: counts and nears of one selector, and the counts' Terms, which are equal only if their selectors are alike.
func TestCountsAndNears(t *testing.T) {
	s, u := itHas("x", "1"), itHas("x", "2")
	to := func(sel, n int) twig { return rel(countTerm("rack", sel), api.CmpLe, n) }
	from := func(sel, n int) twig { return rel(countTerm("rack", sel), api.CmpGe, n) }
	expect(t, plan(and(near("rack", 0), from(1, 2)), s, s), plan(and(near("rack", 0), from(0, 2)), s))
	expect(t, plan(and(from(1, 2), near("rack", 0)), s, s), plan(and(from(0, 2), near("rack", 0)), s))
	expect(t, plan(and(from(0, 2), a, to(1, 2)), s, s), plan(and(counted(0, 2), a), s))
	expect(t, plan(and(from(0, 2), a, to(1, 2)), s, u), plan(and(from(0, 2), a, to(1, 2)), s, u))
	expect(t, plan(and(from(0, 3), a, to(1, 2)), s, s), plan(no))
	expect(t, plan(and(from(0, 3), rel(countTerm("zone", 1), api.CmpLe, 2)), s, s), plan(and(from(0, 3), rel(countTerm("zone", 0), api.CmpLe, 2)), s))
	m := numTerm(api.OfPod, "m")
	expect(t, plan(and(beside(countTerm("rack", 1), api.CmpLt, m), a, beside(countTerm("rack", 0), api.CmpLt, m)), s, s), plan(and(beside(countTerm("rack", 0), api.CmpLt, m), a), s))
	expect(t, plan(and(beside(countTerm("rack", 1), api.CmpLt, m), a, beside(countTerm("rack", 0), api.CmpLt, m)), s, u), plan(and(beside(countTerm("rack", 0), api.CmpLt, m), a, beside(countTerm("rack", 1), api.CmpLt, m)), u, s))
	// a count stays where a near of the same selector goes
	expect(t, plan(or(near("rack", 0), a, from(0, 1)), no), plan(or(a, from(0, 1)), no))
	expect(t, plan(or(near("rack", 0), a, from(1, 1)), no, and(s, u)), plan(or(a, from(0, 1)), no))
}

// P17.1, P17.4: M5: selectors are numbered by their first use; those that no literal uses go, ahead of the merging and behind it.
func TestSelectorsAreNumbered(t *testing.T) {
	s, u, v := itHas("x", "1"), itHas("x", "2"), itHas("y", "1")
	expect(t, plan(a, s, u), plan(a))
	expect(t, plan(yes, s), plan(yes))
	expect(t, plan(and(near("a", 2), near("b", 0)), s, u, v), plan(and(near("a", 0), near("b", 1)), v, s))
	expect(t, plan(and(near("a", 2), or(near("b", 1), near("c", 2)), near("d", 0)), s, u, v), plan(and(near("a", 0), or(near("b", 1), near("c", 0)), near("d", 2)), v, u, s))
	// a literal goes, and its selector with it
	expect(t, plan(and(a, or(a, near("b", 0)), near("c", 1)), s, u), plan(and(a, near("c", 0)), u))
	expect(t, plan(and(or(yes, near("b", 0)), near("c", 1)), s, u), plan(near("c", 0), u))
	expect(t, plan(and(near("b", 0), no, near("c", 1)), s, u), plan(no))
	expect(t, plan(or(near("c", 1), and(near("b", 0), a, not(near("b", 2)))), s, u, s), plan(near("c", 0), u))
	expect(t, plan(or(a, and(counted(0, 1), counted(1, 2)), near("b", 2)), s, s, u), plan(or(a, near("b", 0)), u))
	// by the order in Main as it has been made, not as it was
	expect(t, plan(and(a, or(near("a", 0), near("b", 1)), near("c", 2), near("a", 0)), s, u, v), plan(and(a, near("c", 0), near("a", 1)), v, s))
	expect(t, plan(and(counted(0, 1, 2), near("b", 1), not(counted(0, 2))), s, u), plan(and(counted(0, 1), near("b", 1)), s, u))
}
