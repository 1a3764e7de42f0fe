package mean_test

import (
	"math"
	"testing"

	"berth/api"
	"berth/mean"
)

// P15.4: at places that are none of the tree.
func TestNoPlaces(t *testing.T) {
	c := chapterCluster(t)
	for _, source := range []string{`true`, `node["zone"] == "x"`, `near("zone", true) || node.name in {"a", "b"}`} {
		tree := read(t, source)
		n := len(tree.Parts)
		for _, place := range []int{-1, -2, n, n + 1, 2 * n, 1000, 1 << 32, math.MaxInt, math.MinInt} {
			if v, err := mean.Value(c, tree, api.Pod{}, "a", place); !sameValue(v, api.Value{}) || !sameFault(err, &api.Fault{Code: 150, At: place}) {
				t.Errorf("Value(%s) of %d: %+v, %v", source, place, v, err)
			}
		}
		if v, err := mean.Value(c, tree, api.Pod{}, "a", n-1); v.Sort != api.SortBool || !v.Known || err != nil {
			t.Errorf("Value(%s) of the whole: %+v, %v", source, v, err)
		}
	}
}

// P15.4: of which places the worth can be told: places within a selector, at any depth, are refused; those ahead of it, behind it and round it are not.
func TestPlacesWithinSelectors(t *testing.T) {
	c := chapterCluster(t)
	for _, x := range []struct {
		source string
		hidden []int
	}{
		{`near("zone", true)`, []int{0}},
		{`apart("zone", it.name == "p")`, []int{0, 1, 2}},
		{`count("zone", true) == 1`, []int{0}},
		{`1 == count("zone", true)`, []int{1}},
		{`count("zone", !(it["app"] in {"web", "x"} && (true || false))) < int("4")`, []int{0, 1, 2, 3, 4, 5, 6, 7, 8, 9}},
		{`true && near("zone", pod["a"] == "b") && false`, []int{1, 2, 3}},
		{`near("zone", true) || apart("zone", false) && count("gen", true) > 0`, []int{0, 2, 4}},
		{`!(node.name == "a" && !near("zone", !!(it.name == "p")))`, []int{3, 4, 5, 6, 7}},
		{`node.name == "a" && (true || false)`, nil},
	} {
		tree := read(t, x.source)
		hidden := map[int]bool{}
		for _, place := range x.hidden {
			hidden[place] = true
		}
		for place := range tree.Parts {
			v, err := mean.Value(c, tree, api.Pod{}, "b", place)
			if hidden[place] != sameFault(err, &api.Fault{Code: 150, At: place}) || hidden[place] != (err != nil) || hidden[place] != (v.Sort == 0) {
				t.Errorf("Value(%s) of %d: %+v, %v", x.source, place, v, err)
			}
		}
		check(t, c, tree, api.Pod{})
	}
}

// P15.4: the kids of a negation, a conjunction, a disjunction, a comparison and a membership are told at every depth, whether they decide anything or not.
func TestPlacesInShells(t *testing.T) {
	c := chapterCluster(t)
	shells := []func(w twig) twig{
		not,
		func(w twig) twig { return and(no, w) },
		func(w twig) twig { return or(yes, near("zone", no), w) },
		func(w twig) twig { return and(w, asked(count("zone", no)), yes) },
	}
	for i := range shells {
		w := equal(integer(label(node, "gen")), num(7))
		for deep := range 9 {
			w = shells[(i+deep)%len(shells)](w)
			check(t, c, list(w), api.Pod{})
			check(t, c, list(near("gen", equal(name(it), text("p")))), api.Pod{})
		}
		within := equal(name(it), text("p"))
		for range 8 {
			within = []twig{not(within), and(yes, within), or(within, no)}[i%3]
			check(t, c, list(near("zone", within)), api.Pod{})
			check(t, c, list(and(yes, apart("zone", within), equal(num(1), count("gen", within)))), api.Pod{})
		}
	}
}
