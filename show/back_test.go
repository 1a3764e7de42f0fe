package show_test

import (
	"math/rand/v2"
	"strings"
	"testing"

	"berth/api"
	"berth/parse"
	"berth/show"
)

// P13.4: random trees come back from their texts; two of them with one text are one tree.
func TestThereAndBack(t *testing.T) {
	r := rand.New(rand.NewPCG(13, 1))
	trees := map[string]api.Tree{}
	for range 6000 {
		tree := list(someCondition(r, r.IntN(9)))
		check(t, tree)
		text, err := show.Text(tree)
		if err != nil {
			continue
		}
		if other, has := trees[text]; has && !sameTree(other, tree) {
			t.Fatalf("%q is the text of %s and of %s", text, told(other), told(tree))
		}
		trees[text] = tree
	}
	if len(trees) < 2000 {
		t.Errorf("only %d texts", len(trees))
	}
}

// P13.4: what parse answers is valid, its nest is not above the greatest nest of a place of its source, and all sources of one tree have its one text.
func TestManySources(t *testing.T) {
	r := rand.New(rand.NewPCG(13, 2))
	read, deep := 0, 0
	for range 3000 {
		w := someCondition(r, r.IntN(12))
		want, text, invalid, silent := model(list(w))
		for range 3 {
			s := &scribe{r: r, groups: 1 + r.IntN(6)}
			if s.groups == 1 {
				s.groups = 1000000
			}
			source := s.condition(w, 0, 0)
			tree, _, err := parse.Parse(source)
			if err != nil {
				if s.greatest <= 32 && len(source) <= 4096 {
					t.Fatalf("%q, with a nest of %d: %v", source, s.greatest, err)
				}
				continue
			}
			read++
			if invalid != nil || !sameTree(tree, list(w)) {
				t.Fatalf("%q reads as %s, %v", source, told(tree), invalid)
			}
			expect(t, tree, want, text, nil, silent)
			if n, _ := show.Nest(tree); n > s.greatest {
				t.Fatalf("%q has a nest of %d, its tree one of %d", source, s.greatest, n)
			} else if n < s.greatest {
				deep++
			}
		}
	}
	if read < 4000 || deep < 1000 {
		t.Errorf("only %d sources were read, %d of them with more nest than their trees", read, deep)
	}
}

// P13.4: groups for nothing are in the source's nest, but not in the tree's.
func TestSourcesWithMoreNest(t *testing.T) {
	for _, c := range []struct {
		source, text string
		nest         int
	}{
		{"(true)", "true", 0},
		{strings.Repeat("(", 32) + "true" + strings.Repeat(")", 32), "true", 0},
		{"((true) && ((false)))", "true && false", 0},
		{"(true && false) || (true)", "true && false || true", 0},
		{"(true || false) && true", "(true || false) && true", 1},
		{"!(1==2)", "!1 == 2", 1},
		{"!((true))", "!true", 1},
		{"!(!(true))", "!!true", 2},
		{`near("a",(true||(false)))`, `near("a", true || false)`, 1},
		{"true&&true||true", "true && true || true", 0},
		{`"\x41\x42"=="\x00\x0A"`, `"AB" == "\x00\n"`, 0},
		{"1 # one\n<\t2\n", "1 < 2", 0},
	} {
		tree, _, err := parse.Parse(c.source)
		if err != nil {
			t.Fatalf("%q: %v", c.source, err)
		}
		expectText(t, tree, c.nest, c.text)
	}
}

// P13.3, P13.4: a text may be too long though its source isn't.
func TestTextLongerThanItsSource(t *testing.T) {
	for _, source := range []string{
		strings.Repeat("true||", 682) + "true",
		strings.Repeat("true||", 512) + "true",
		"1 in {" + strings.Repeat(`"`+strings.Repeat("\xff", 127)+`",`, 30) + "2}",
	} {
		tree, _, err := parse.Parse(source)
		if err != nil {
			t.Fatalf("%.30q: %v", source, err)
		}
		expectLong(t, tree, 0)
	}
	tree, _, _ := parse.Parse(strings.Repeat("true||", 511) + "true")
	check(t, tree)
	if s, err := show.Text(tree); len(s) != 4092 || err != nil {
		t.Errorf("%d bytes, %v", len(s), err)
	}
}

// P13.4: the trees of the largest and deepest sources are valid.
func TestGreatestSources(t *testing.T) {
	for _, source := range []string{
		strings.Repeat("!1<2||", 249) + "true||true||true",
		strings.Repeat("!", 32) + "1<2&&" + strings.Repeat("(", 32) + "true||false" + strings.Repeat(")", 32),
		strings.Repeat("(true||", 32) + "true&&true" + strings.Repeat(")", 32),
		strings.Repeat("true&&(", 32) + "true&&true" + strings.Repeat(")", 32),
		strings.Repeat(`near("z",`, 32) + "true" + strings.Repeat(")", 32),
		strings.Repeat("int(", 32) + "1" + strings.Repeat(")", 32) + " in {" + strings.Repeat("1,", 63) + "1}",
		`"` + strings.Repeat("a", 127) + `"=="` + strings.Repeat("\xff", 127) + `"`,
		"-999999999999999999 in {999999999999999999}",
	} {
		tree, _, err := parse.Parse(source)
		if err != nil {
			t.Fatalf("%.30q: %v", source, err)
		}
		if _, _, f, _ := model(tree); f != nil {
			t.Errorf("%.30q: %v", source, f)
		}
		check(t, tree)
	}
}
