package norm_test

import (
	"strings"
	"testing"

	"berth/api"
	"berth/cluster"
)

// mixedCluster has nodes with and without what is asked for, and pods bound to some of them.
func mixedCluster(t *testing.T) *cluster.Cluster {
	t.Helper()
	return clusterOf(t, []api.Node{
		{Name: "a", Labels: labelled("zone", "x", "n", "5", "host", "a"), Cap: []api.Item{{Name: "cpu", N: 4}}, Taints: []api.Taint{{Key: "gpu", Effect: api.NoSchedule}}},
		{Name: "b", Labels: labelled("zone", "x", "n", "05", "a", ""), Cap: []api.Item{{Name: "cpu", N: 5}}},
		{Name: "c", Labels: labelled("zone", "y", "n", "-1"), Taints: []api.Taint{{Key: "app", Effect: api.NoExecute}}},
		{Name: "d"},
		{Name: "e", Labels: labelled("zone", "z", "n", "6")},
	},
		stand{api.Pod{Name: "p", Labels: labelled("app", "web", "n", "5")}, "a"},
		stand{api.Pod{Name: "q", Labels: labelled("app", "db")}, "b"},
		stand{api.Pod{Name: "r", Labels: labelled("app", "web", "n", "7")}, "c"},
		stand{api.Pod{Name: "s"}, "d"},
	)
}

// P16.3, L1, L2, L4: each literal, plain and negated, at nodes where its thing is there and where it is not: the plan says what layer 15 says.
func TestMeaning(t *testing.T) {
	c := mixedCluster(t)
	numbers := []string{`int(node["n"])`, `int(pod["n"])`, `int(pod["none"])`, `node.cap("cpu")`, `count("zone", true)`, `count("zone", it["app"] == pod["app"])`, `count("none", true)`, `5`, `int("5")`, `int("05")`}
	texts := []string{`node["zone"]`, `node["none"]`, `node.name`, `pod["app"]`, `pod["none"]`, `pod.name`, `"x"`, `"web"`, `""`}
	var sources []string
	for _, left := range numbers {
		for _, right := range numbers {
			for _, mark := range marks {
				sources = append(sources, left+" "+mark+" "+right)
			}
		}
		sources = append(sources, left+` in {5, 6, 5}`, left+` notin {0, -1}`, left+` in {}`)
	}
	for _, left := range texts {
		for _, right := range texts {
			sources = append(sources, left+" == "+right, left+" != "+right)
		}
		for _, set := range []string{`{"x", "y", "x"}`, `{"", "web", "a"}`, `{}`, `node.keys`, `pod.keys`, `node.taints`} {
			sources = append(sources, left+" in "+set, left+" notin "+set)
		}
	}
	for _, selector := range []string{`true`, `false`, `it["app"] == "web"`, `it["app"] != pod["app"]`, `"app" notin it.keys`, `int(it["n"]) > 5 && it.name != "s"`, `int(it["n"]) == int(pod["n"])`, `pod["app"] in {"web"}`} {
		for _, key := range []string{"zone", "host", "none"} {
			sources = append(sources, `near("`+key+`", `+selector+`)`, `apart("`+key+`", `+selector+`)`, `count("`+key+`", `+selector+`) == 1`, `count("`+key+`", `+selector+`) >= 0`)
		}
	}
	sources = append(sources, `tolerated("NoSchedule")`, `tolerated("NoExecute")`, `tolerated("PreferNoSchedule")`)
	pods := []api.Pod{{}, {Name: "p", Labels: labelled("app", "web", "n", "5", "app", "db"), Tolerations: []api.Toleration{{Key: "gpu", Op: api.Exists}}}, {Name: "a", Labels: labelled("zone", "x", "n", "x")}}
	held := map[bool]int{}
	for _, source := range sources {
		for _, whole := range []string{source, "!" + source, "!(" + source + ` && node.name != "b")`, "(" + source + `) || node["zone"] == "z"`} {
			tree := read(t, whole)
			if !taken(tree, api.OfNode) {
				continue
			}
			check(t, tree, api.OfNode)
			for _, p := range pods {
				n := checkMeaning(t, c, tree, p)
				held[0 < n && n < 5]++
				checkMeaning(t, nil, tree, p)
			}
		}
	}
	if held[true] < 1000 || held[false] < 1000 {
		t.Errorf("at some nodes, at all or none: %v", held)
	}
}

// P16.3: selectors at pods.
func TestMeaningOfSelectors(t *testing.T) {
	var pods []api.Pod
	for _, labels := range [][]string{nil, {"app", "web"}, {"app", "db", "n", "5"}, {"n", "05", "a b", "x"}, {"app", "", "n", "-7", "app", "web"}} {
		pods = append(pods, api.Pod{Name: "p", Labels: labelled(labels...)}, api.Pod{Labels: labelled(labels...)})
	}
	selected := map[bool]int{}
	for _, source := range []string{
		`true`, `false`, `it["app"] == "web"`, `it["app"] != ""`, `it["app"] == pod["app"]`, `pod["app"] != it["app"]`, `it.name == pod.name`, `pod.name in {"p", "q", "p"}`,
		`it.name in pod.keys`, `pod["app"] in it.keys`, `"n" in it.keys && "a b" notin it.keys`, `"app" in pod.keys`, `int(it["n"]) < 5`, `5 <= int(it["n"])`, `int(it["n"]) > int(pod["n"])`,
		`int(pod["n"]) >= int(it["n"])`, `int(pod["n"]) == int(pod["n"])`, `int(it["n"]) notin {5, -7}`, `int("x") != int(it["n"])`, `it.name notin {}`, `"a" == "a"`,
	} {
		for _, whole := range []string{source, "!" + source, "!(" + source + ` || it["app"] == "db")`} {
			tree := read(t, whole)
			check(t, tree, api.OfIt)
			for _, p := range pods {
				for _, it := range pods {
					selected[checkSelects(t, tree, p, it)]++
				}
			}
		}
	}
	if selected[true] < 1000 || selected[false] < 1000 {
		t.Errorf("selected: %v", selected)
	}
}

// P16.4: one part of each kind below another of each kind: no part but a literal has a sign, and the negation is the dual.
func TestNoSignsButOnLiterals(t *testing.T) {
	leaves := []twig{yes, no, equal(label(node, "a"), text("x")), notin(integer(label(pod, "n")), set(num(1))), near("z", yes), apart("z", equal(name(it), text("p"))), asked(count("z", no)), tolerated("NoExecute"), in(text("k"), taints(node))}
	var twigs []twig
	for _, a := range leaves {
		twigs = append(twigs, a, not(a))
	}
	var more []twig
	for _, a := range twigs {
		for _, b := range twigs {
			more = append(more, and(a, b), or(a, b), not(and(a, b)), not(or(a, b)))
		}
	}
	for i, a := range more {
		other := more[(i*7+3)%len(more)]
		for _, w := range []twig{a, not(a), and(a, other), not(or(other, not(a), yes))} {
			p, e := check(t, list(w), api.OfNode)
			for _, part := range p.Main {
				if e != api.OK || part.Neg && part.Kind != api.PLit {
					t.Fatalf("%s: %s, %d", toldTree(list(w)), toldPlan(p), e)
				}
			}
		}
	}
}

// P16.3: where a plan folds to a constant, the tree holds everywhere or nowhere, with selectors that are dropped, too.
func TestMeaningOfConstants(t *testing.T) {
	c := mixedCluster(t)
	for source, want := range map[string]int{
		`near("zone", false)`: 0, `apart("zone", it.name in {})`: 5, `near("zone", true) && false`: 0, `count("zone", true) > 0 || true`: 5, `count("zone", true) != int("")`: 5,
		strings.Repeat("!", 31) + `true`: 0, `node.name notin {}`: 5, `node["none"] in {}`: 0,
	} {
		if n := checkMeaning(t, c, read(t, source), api.Pod{}); n != want {
			t.Errorf("%s holds at %d nodes", source, n)
		}
		if p, _ := check(t, read(t, source), api.OfNode); len(p.Main) != 1 || p.Main[0].Kind == api.PLit || len(p.Sels) != 0 {
			t.Errorf("%s: %s", source, toldPlan(p))
		}
	}
}
