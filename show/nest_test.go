package show_test

import (
	"slices"
	"strings"
	"testing"

	"berth/api"
	"berth/parse"
	"berth/show"
)

// shell is something that nests what stands in it.
type shell struct {
	name string
	of   func(inside twig) twig
}

// single are shells that have a nest of one, whatever stands in them.
var single = []shell{
	{"not", not},
	{"near", func(w twig) twig { return near("z", w) }},
	{"apart", func(w twig) twig { return apart("z", w) }},
	{"count", func(w twig) twig { return equal(count("z", w), num(1)) }},
}

var shells = append(slices.Clone(single), []shell{
	{"count on the right", func(w twig) twig { return in(num(1), count("z", w)) }},
	{"and of and", func(w twig) twig { return and(and(w, yes), no) }},
	{"and of or", func(w twig) twig { return and(yes, or(yes, w)) }},
	{"or of or", func(w twig) twig { return or(or(w, no), yes) }},
	{"or of and of or", func(w twig) twig { return or(and(or(w, no), yes), yes) }},
	{"not of and", func(w twig) twig { return not(and(w, yes)) }},
	{"not of or", func(w twig) twig { return not(or(yes, w)) }},
	{"and of not", func(w twig) twig { return and(not(w), yes) }},
	{"or of and", func(w twig) twig { return or(and(w, yes), yes) }},
}...)

// P13.1, P13.2: nests of 31, 32 and 33, and far beyond, by each thing that nests and by all of them in turn.
func TestNests(t *testing.T) {
	for _, s := range single {
		w := yes
		for n := range 40 {
			if n > 32 {
				expectFault(t, list(w), api.ErrNest, 0)
			} else if got, err := show.Nest(list(w)); got != n || err != nil {
				t.Errorf("%d times %s: %d, %v", n, s.name, got, err)
			}
			check(t, list(w))
			w = s.of(w)
		}
	}
	right := yes
	for n := range 40 {
		if n > 32 {
			expectFault(t, list(right), api.ErrNest, 33) // behind the numbers that stand on the left
		}
		check(t, list(right))
		right = in(num(1), count("z", right))
	}
	for _, a := range shells {
		for _, b := range shells {
			w := yes
			for range 20 {
				w = a.of(b.of(w))
				check(t, list(w))
			}
		}
	}
	w := yes
	for i := range 60 {
		w = shells[i%len(shells)].of(w)
		check(t, list(w))
	}
}

// P13.1, P13.2: int within int.
func TestNestOfInt(t *testing.T) {
	for n := range 40 {
		w := num(1)
		for range n {
			w = integer(w)
		}
		text := strings.Repeat("int(", n) + "1" + strings.Repeat(")", n)
		if n > 32 {
			expectFault(t, list(equal(w, num(2))), api.ErrNest, 0)
			expectFault(t, list(equal(num(2), w)), api.ErrNest, 1)
			continue
		}
		expectText(t, list(equal(w, num(2))), n, text+" == 2")
		expectText(t, list(in(num(2), w)), n, "2 in "+text)
	}
	for k := range 33 {
		w, over := num(1), integer(num(1))
		for range 32 - k {
			w, over = integer(w), integer(over)
		}
		most, more := equal(w, num(1)), equal(over, num(1))
		for range k {
			most, more = near("", most), near("", more)
		}
		check(t, list(most))
		if n, err := show.Nest(list(most)); n != 32 || err != nil {
			t.Errorf("%d int in %d near: %d, %v", 32-k, k, n, err)
		}
		expectFault(t, list(more), api.ErrNest, 0)
	}
}

// P13.1, P13.2: parentheses within parentheses, opened to the left and to the right: the first place whose nest is too great is told.
func TestNestOfParentheses(t *testing.T) {
	for n := range 40 {
		left, right, both := and(yes, no), and(yes, no), or(yes, no)
		for i := range n {
			left, right = and(left, yes), and(yes, right)
			if i%2 == 0 {
				both = and(yes, both)
			} else {
				both = or(yes, both)
			}
		}
		if n > 32 {
			expectFault(t, list(left), api.ErrNest, 0)
			expectFault(t, list(right), api.ErrNest, 33)
		} else {
			expectText(t, list(left), n, strings.Repeat("(", n)+"true && false"+strings.Repeat(") && true", n))
			expectText(t, list(right), n, strings.Repeat("true && (", n)+"true && false"+strings.Repeat(")", n))
		}
		check(t, list(both))
		if got, err := show.Nest(list(both)); got != (n+1)/2 || err != nil {
			t.Errorf("%d of both: %d, %v", n, got, err)
		}
	}
	w := yes
	for range 16 {
		w = not(and(w, yes))
	}
	check(t, list(w))
	if n, err := show.Nest(list(w)); n != 32 || err != nil {
		t.Errorf("16 negations and 16 groups: %d, %v", n, err)
	}
	expectFault(t, list(not(w)), api.ErrNest, 0)
	expectFault(t, list(near("a", w)), api.ErrNest, 0)
	expectFault(t, list(and(or(yes, w), yes)), api.ErrNest, 1)
	check(t, list(or(and(yes, w), yes)))
}

// P13.1: the lowest place whose nest is too great, wherever it stands; a part may be too deep whose kids stand ahead of it, but then they are too.
func TestWhereTheNestIsTold(t *testing.T) {
	nots := func(n int, w twig) twig {
		for range n {
			w = not(w)
		}
		return w
	}
	expectFault(t, list(or(yes, nots(33, yes))), api.ErrNest, 1)
	expectFault(t, list(or(nots(33, yes), yes)), api.ErrNest, 0)
	expectFault(t, list(or(nots(32, yes), nots(33, yes))), api.ErrNest, 33)
	expectFault(t, list(or(nots(32, yes), nots(40, yes), nots(33, yes))), api.ErrNest, 33)
	expectFault(t, list(nots(33, or(yes, no))), api.ErrNest, 0)
	expectFault(t, list(nots(32, or(yes, no))), api.ErrNest, 0) // the parentheses are one more
	check(t, list(nots(31, or(yes, no))))
	expectFault(t, list(nots(33, equal(num(1), num(2)))), api.ErrNest, 0)
	check(t, list(nots(32, equal(num(1), num(2)))))
	expectFault(t, list(nots(32, equal(num(1), integer(num(2))))), api.ErrNest, 1)
	expectFault(t, list(nots(32, equal(set(num(1), num(2)), integer(num(2))))), api.ErrNest, 3)
	expectFault(t, list(nots(31, equal(num(1), integer(integer(num(2)))))), api.ErrNest, 1)
	expectFault(t, list(nots(31, or(yes, and(yes, no), or(yes, no)))), api.ErrNest, 4)
	expectFault(t, list(nots(31, or(yes, not(yes)))), api.ErrNest, 1)
	expectFault(t, list(nots(32, in(num(1), count("z", yes)))), api.ErrNest, 1)
	expectFault(t, list(nots(999, yes)), api.ErrNest, 0)
	check(t, list(nots(32, tolerated("a"))))
	check(t, list(nots(32, in(capacity(node, "a"), set(num(1), num(2))))))
	check(t, list(nots(32, in(label(node, "a"), set(text("x"))))))
}

// P13.2: the nest is how many groups fewer than 32 may be put round the text, till parse gives up.
func TestNestByGroups(t *testing.T) {
	for _, a := range shells {
		for _, b := range shells {
			for _, inside := range []twig{yes, equal(integer(num(1)), num(2)), or(yes, no), not(and(yes, no))} {
				tree := list(a.of(b.of(a.of(inside))))
				n, err := show.Nest(tree)
				if err != nil {
					t.Fatal(err)
				}
				text, _ := show.Text(tree)
				for _, groups := range []int{32 - n, 33 - n} {
					_, _, err := parse.Parse(strings.Repeat("(", groups) + text + strings.Repeat(")", groups))
					if (err == nil) != (groups+n <= 32) {
						t.Errorf("%q has the nest %d; with %d groups round it: %v", text, n, groups, err)
					}
				}
			}
		}
	}
}
