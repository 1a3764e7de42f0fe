package mean_test

import (
	"testing"

	"berth/api"
	"berth/mean"
)

// P15.5: the part that decides: through negations, conjunctions and disjunctions within each other, true and false.
func TestWhy(t *testing.T) {
	c := chapterCluster(t)
	for _, x := range []struct {
		source string
		place  int
		holds  bool
	}{
		{`true`, 0, true},
		{`false`, 0, false},
		{`!true`, 0, false},
		{`!!true`, 0, true},
		{`!!!true`, 0, false},
		{`true && true`, 2, true},
		{`true && false`, 1, false},
		{`false && false`, 0, false},
		{`true && true && false && false`, 2, false},
		{`false || false`, 2, false},
		{`false || true`, 1, true},
		{`true || true`, 0, true},
		{`false || false || true || true`, 2, true},
		{`!(true && true)`, 2, false},
		{`!(true && false)`, 1, true},
		{`!(false || false)`, 2, true},
		{`!(false || true)`, 1, false},
		{`false || !(true && false)`, 2, true},
		{`true && !(false || true)`, 2, false},
		{`(true && false) || (true && true)`, 5, true},
		{`(false || true) && (false || false)`, 5, false},
		{`(true || false) && !(false && true)`, 7, true},
		{`(false && true) || !(true || false)`, 7, false},
		{`!(!(true && !(false || true)))`, 2, false},
		{`!(!(true && !(false || false)))`, 5, true},
		{`!(!true && !false)`, 0, true},
		{`!(!false && !false)`, 4, false},
		{`node["zone"] == "x"`, 2, true},
		{`node["zone"] != "x" || node.name in {"b", "a"}`, 7, true},
		{`node["zone"] != "x" && node.name in {"b", "a"}`, 2, false},
		{`!(node.name notin {"b", "a"})`, 4, true},
		{`near("zone", true && false)`, 3, false},
		{`!near("zone", true && false)`, 3, true},
		{`apart("zone", !true)`, 2, true},
		{`apart("zone", !false)`, 2, false},
		{`!apart("zone", true || false)`, 3, true},
		{`true && apart("zone", !(false || it.name == "q")) && false`, 7, false},
		{`false || count("zone", !false) == 1`, 5, true},
		{`false || tolerated("NoExecute")`, 1, true},
	} {
		tree := read(t, x.source)
		if place, holds, err := mean.Why(c, tree, api.Pod{}, "a"); place != x.place || holds != x.holds || err != nil {
			t.Errorf("Why(%s): %d, %v, %v, want %d, %v", x.source, place, holds, err, x.place, x.holds)
		}
		check(t, c, tree, api.Pod{})
	}
}

// P15.5: the part that decides is not the same at every node, nor for every pod.
func TestWhyAtEachNode(t *testing.T) {
	c := chapterCluster(t)
	tree := read(t, `node["zone"] == "x" && pod["app"] == "web" || !(near("zone", it["app"] == pod["app"]) || node.name == "c")`)
	for _, x := range []struct {
		node, app string
		place     int
		holds     bool
	}{
		{"a", "web", 6, true},
		{"a", "db", 14, true},
		{"b", "web", 14, true},
		{"b", "db", 16, false},
		{"c", "web", 16, false},
		{"c", "db", 16, false},
	} {
		p := api.Pod{Labels: labelled("app", x.app)}
		place, holds, err := mean.Why(c, tree, p, x.node)
		check(t, c, tree, p)
		if place != x.place || holds != x.holds || err != nil {
			t.Errorf("at %s for %s: %d, %v, %v", x.node, x.app, place, holds, err)
		}
	}
}

// P15.5: every tree of a few conditions, each true or false, up to some depth.
func TestWhyOfEverySmallTree(t *testing.T) {
	c := chapterCluster(t)
	level := []twig{yes, no, near("zone", yes), equal(name(node), text("b"))}
	small := level
	for range 2 {
		next := level
		for i, a := range small {
			next = append(next[:len(next):len(next)], not(a))
			for j, b := range small {
				if len(small) > 10 && (i+j)%3 > 0 {
					continue
				}
				next = append(next, and(a, b), or(a, b), not(and(b, a, yes)), or(no, not(b), a))
			}
		}
		small = next
	}
	decided := map[int]int{}
	for i, w := range small {
		if i%7 > 0 {
			continue
		}
		tree := list(w)
		check(t, c, tree, api.Pod{})
		place, _, _ := mean.Why(c, tree, api.Pod{}, "a")
		decided[place]++
	}
	if len(decided) < 10 {
		t.Errorf("%d trees, decided at %v", len(small), decided)
	}
}
