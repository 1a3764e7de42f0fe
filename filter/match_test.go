package filter_test

import (
	"fmt"
	"slices"
	"strings"
	"testing"

	"berth/api"
	"berth/cluster"
	"berth/filter"
	"berth/index"
	"berth/mean"
)

// meant holds P23.2: Match answers what mean.Where answers for the tree of the source. It hands on the names.
func meant(t *testing.T, c *cluster.Cluster, x *index.Index, source string, pod api.Pod) []string {
	t.Helper()
	want, err := mean.Where(c, mustRead(t, source, api.OfNode), pod)
	if err != nil {
		t.Fatal(told(err))
	}
	got, err := filter.Match(c, x, source, pod)
	if err != nil || !slices.Equal(got, want) {
		t.Fatalf("Match %s for %+v: %q, %s, want %q", short(source), pod, got, told(err), want)
	}
	return got
}

// constraints say something of every kind.
var constraints = []string{
	`true`, `false`, `node.name in {"a0", "c0"}`, `node.name != pod.name`, `node.name == "b0" || node["zone"] == "x"`, `node.name in {}`, `node.name notin {}`,
	`node["zone"] in {"x", "y"} && node["rack"] != "x" || !(int(node["n"]) < 2) && int(node["n"]) notin {2, 3}`,
	`node["zone"] == pod["zone"]`, `node["zone"] != pod["zone"]`, `pod["zone"] == pod["rack"] || pod.name == pod["app"]`,
	`int(node["n"]) == int(pod["n"])`, `int(node["n"]) != int(pod["n"])`, `int(node["n"]) < int(pod["n"])`, `!(int(node["n"]) < int(pod["n"]))`, `int(pod["n"]) in {1, 2}`,
	`int(node["n"]) <= 2`, `int(node["n"]) > -1`, `int(node["n"]) >= 2`, `2 != int(node["n"])`, `int("7") > 3`, `int("x") != int("y")`,
	`node.cap("cpu") > 1`, `node.cap("cpu") == 0`, `node.cap("cpu") != int(pod["n"])`, `node.cap("mem") in {0, 2}`, `node.cap("gpu") < 1`,
	`"zone" in node.keys`, `pod["app"] notin node.keys`, `node["zone"] in pod.keys`, `"zone" in pod.keys`,
	`"t" in node.taints`, `pod["zone"] in node.taints`, `tolerated("NoSchedule")`, `!tolerated("NoExecute") || tolerated("PreferNoSchedule")`,
	`near("zone", true)`, `apart("zone", true)`, `near("rack", it["app"] == pod["app"])`, `apart("zone", it.name == pod.name)`, `near("zone", !(it["app"] == "web"))`, `near("app", false)`,
	`count("zone", true) == 0`, `count("zone", true) != 1`, `!(count("zone", true) == 1)`, `count("rack", int(it["n"]) > 0) in {0, 1}`, `count("zone", "n" in it.keys) != int(pod["n"])`,
	`near("zone", it["app"] == "web") && (node["zone"] == "x" || apart("rack", it["app"] == "web")) || count("zone", it["app"] == "web") == 2`,
	`!(!(node["zone"] == "x" && !(near("zone", it["n"] in {"1", "2"}))) || tolerated("NoSchedule"))`,
}

// P23.2, DOC.md P3: constraints of every kind over clusters of several shapes, for raw and made pods; the index kept, and built anew.
func TestConstraints(t *testing.T) {
	r := newChance(20)
	var courses []course
	for _, steps := range []int{0, 4, 10, 20, 40, 60, 60, 100} {
		courses = append(courses, r.course(t, steps))
	}
	some := map[string]bool{}
	for _, source := range constraints {
		for _, c := range courses {
			for _, pod := range []api.Pod{{}, {Name: "p0", Labels: tags("app", "web", "n", "1", "zone", "x")}, r.rawPod(), r.rawPod()} {
				names := meant(t, c.c, c.x, source, pod)
				meant(t, c.c, index.Build(c.c), source, pod)
				if len(names) > 0 && len(names) < len(c.c.Nodes()) {
					some[source] = true
				}
			}
		}
	}
	if len(some) < len(constraints)/2 {
		t.Errorf("only %d constraints hold at some nodes and not at others", len(some))
	}
}

// P23.2, DOC.md P3: random constraints over the indexes that were kept of random clusters.
func TestAnyConstraint(t *testing.T) {
	r := newChance(21)
	some := 0
	for range 300 {
		c := r.course(t, one(r, 5, 30, 60, 100))
		for range 20 {
			names := meant(t, c.c, c.x, r.condition(api.OfNode, one(r, 1, 2, 3, 5)), r.rawPod())
			if len(names) > 0 && len(names) < len(c.c.Nodes()) {
				some++
			}
			c.step(t)
		}
	}
	if some < 1000 {
		t.Errorf("only %d hold at some nodes and not at others", some)
	}
}

// P23.2: a source that Compile refuses, with the same fault; nothing of the pod is checked.
func TestMatchRefuses(t *testing.T) {
	r, c := newChance(22), chapterCluster(t)
	x := index.Build(c)
	for range 5000 {
		source, p := r.source(api.OfNode), r.rawPod()
		_, want := filter.Compile(source)
		names, err := filter.Match(c, x, source, p)
		if told(err) != told(want) || err != nil && len(names) > 0 {
			t.Fatalf("Match %q for %+v: %q, %s, want %s", source, p, names, told(err), told(want))
		}
	}
	wrong := api.Pod{Name: "No!", Labels: tags("a b", "\xff", "app", "web", "app", "db"), Needs: cpu(-1), Require: "&", Apart: apart("", ""), Prefer: make([]api.Prefer, 9), Priority: 1 << 40}
	expectMatch(t, c, `near("zone", it["app"] == pod["app"]) && pod.name == "No!" && "a b" in pod.keys`, wrong, "a b")
	expectMatch(t, c, `near("zone", it["app"] == "db" || it.name == pod.name)`, api.Pod{Name: "q"}, "a b")
}

// greatest has as many nodes and bound pods as there may be, in some groups.
func greatest(t *testing.T) *cluster.Cluster {
	t.Helper()
	var nodes []api.Node
	var pods []stand
	for i := range api.MaxNodes {
		n := api.Node{Name: fmt.Sprint("n", i), Labels: tags("zone", fmt.Sprint(i%7), "rack", fmt.Sprint(i/8), "n", fmt.Sprint(i), "host", fmt.Sprint("n", i)), Cap: cpu(i % 12), Cordoned: i%11 == 5}
		if i%5 == 1 {
			n.Taints = []api.Taint{{Key: fmt.Sprint("t", i%3), Effect: effects[i%3]}}
		}
		nodes = append(nodes, n)
	}
	for i := range api.MaxPods {
		p := api.Pod{Name: fmt.Sprint("p", i), Labels: tags("app", fmt.Sprint(i%50), "n", fmt.Sprint(i))}
		if i%16 == 3 {
			p.Apart = apart("rack", `it["app"] == pod["app"]`, "zone", `int(it["n"]) == 9999`, "host", `it.name != pod.name`)
		}
		pods = append(pods, stand{p, fmt.Sprint("n", i*5%api.MaxNodes)})
	}
	return clusterOf(t, nodes, pods...)
}

// P23.2, P23.4, P23.5: the greatest cluster.
func TestGreatestCluster(t *testing.T) {
	c := greatest(t)
	x := index.Build(c)
	for _, source := range []string{
		`node["zone"] in {"1", "3"} && node.cap("cpu") >= 4 || near("rack", it["app"] == "7" && int(it["n"]) > 90)`,
		`count("rack", it["app"] == pod["app"]) >= 1 && !("t1" in node.taints)`,
		`apart("host", int(it["n"]) < 500) && tolerated("NoSchedule")`,
	} {
		p := api.Pod{Name: "new", Labels: tags("app", "3"), Needs: cpu(2), Tolerations: []api.Toleration{{Key: "t1", Op: api.Exists}}, Require: source}
		if names := meant(t, c, x, source, p); len(names) < 10 || len(names) > 500 {
			t.Errorf("%s: %q", source, names)
		}
		p.Apart = apart("host", `it["app"] == "9"`, "rack", `int(it["n"]) < 40`)
		names, err := filter.Feasible(c, x, p)
		if err != nil || len(names) < 5 {
			t.Errorf("%s: %q, %s", source, names, told(err))
		}
		for i, name := range c.Nodes() {
			if i%8 > 0 {
				continue
			}
			why, err := filter.Explain(c, p, name)
			if _, fits := slices.BinarySearch(names, name); err != nil || fits != (why.Verdict == api.Fits) {
				t.Fatalf("%s at %s: %v, %s", source, name, why, told(err))
			}
			if i%64 == 0 {
				if want := append(standing(t, c, mustCheck(t, p), name), api.Reason{})[0]; why != want {
					t.Fatalf("%s at %s: %v, want %v", source, name, why, want)
				}
			}
		}
	}
}

func mustCheck(t *testing.T, p api.Pod) api.Pod {
	t.Helper()
	made, err := filter.Check(p)
	if err != nil {
		t.Fatal(told(err))
	}
	return made
}

// nested is a source of so many pairs of parentheses within one another, with a join of each kind in each.
func nested(n int, open, inner, who string) string {
	var out strings.Builder
	for i := range n {
		fmt.Fprintf(&out, `"k%d" in %s.keys || int(%s["n"]) != %d && %s(`, i, who, who, i+3, open)
	}
	return out.String() + inner + strings.Repeat(")", n)
}

// joined is a source of so many atoms, joined in turn.
func joined(n int, atom func(i int) string, marks ...string) string {
	var out strings.Builder
	for i := range n {
		if i > 0 {
			out.WriteString(marks[i%len(marks)])
		}
		out.WriteString(atom(i))
	}
	return out.String()
}

// among is a membership in a set of so many texts, none of which is the name of a pod.
func among(n int) string {
	elements := make([]string, n)
	for i := range elements {
		elements[i] = `"` + string("ABCDEFGHIJKLMNOPQRSTUVWXYZabcdefghijklmnopqrstuvwxyz0123456789-."[i]) + `"`
	}
	return "it.name in{" + strings.Join(elements, ",") + "}"
}

// greatSelectors are at the limits of nests (the first three), of parts (the next two) and of bytes (the last one), or near them.
func greatSelectors() []string {
	set := func(i int) string { return among(64 - i/14*7) }
	return []string{
		nested(32, "", `it.name == pod.name`, "it"),
		strings.Repeat("!(", 16) + `it["app"] == "web"` + strings.Repeat(")", 16),
		strings.Repeat("!", 32) + `it["app"] == "web"`,
		"!(" + joined(15, set, "||") + ")",
		joined(332, func(i int) string { return "1==1" }, "&&") + `&&it["app"]=="web"`,
		joined(232, func(i int) string { return fmt.Sprintf(`it["n"]!="%d"`, i+2) }, "&&", "||"),
		joined(200, func(i int) string { return fmt.Sprintf(`"k%d" in it.keys`, i) }, "||"),
		strings.Repeat(" ", 4092) + "true",
	}
}

// P23.2, P23.4, P23.5, L9: constraints at the limits, and apart terms, of the pod and of bound pods, whose selectors are as large as any may be.
func TestGreatSources(t *testing.T) {
	r := newChance(23)
	c := clusterOf(t, []api.Node{
		{Name: "a", Labels: tags("zone", "x", "n", "1")}, {Name: "b", Labels: tags("zone", "y", "n", "2", "k3", "")}, {Name: "c"},
	}, stand{api.Pod{Name: "p", Labels: tags("app", "web", "n", "1", "k3", "")}, "a"}, stand{api.Pod{Name: "q", Labels: tags("app", "db", "n", "5")}, "b"})
	for _, source := range []string{
		nested(32, "", `tolerated("NoSchedule")`, "node"), nested(16, "!", `node.cap("cpu") < 2`, "node"),
		nested(15, "", `count("zone", `+nested(16, "", `it.name == pod.name`, "it")+") < 3", "node"),
		joined(200, func(i int) string { return fmt.Sprintf("\"k%d\"in node.keys", i) }, "&&", "||"),
	} {
		meant(t, c, index.Build(c), source, r.rawPod())
	}
	found := 0
	for _, selector := range greatSelectors() {
		near := api.Pod{Name: "p", Labels: tags("app", "web", "n", "4"), Apart: apart("zone", selector)}
		if _, err := filter.Check(near); err != nil {
			t.Fatalf("%s: %s", short(selector), told(err))
		}
		for _, against := range agree(t, c, index.Build(c), near) {
			found += len(against)
		}
		if _, err := c.Bind(api.Pod{Name: "term", Apart: near.Apart}, "b"); err != nil {
			t.Fatal(err)
		}
		for _, against := range agree(t, c, index.Build(c), api.Pod{Name: "p", Labels: near.Labels}) {
			found += len(against)
		}
		if _, err := c.Unbind("term"); err != nil {
			t.Fatal(err)
		}
	}
	if found < 10 {
		t.Errorf("only %d times something stands against a node", found)
	}
	for i, want := range []string{"122", "122", "122", "123", "123", "none", "none", "110"} {
		if _, fault := read(`apart("zone",`+greatSelectors()[i]+")", api.OfNode); !strings.HasPrefix(fault, want) {
			t.Errorf("selector %d in a constraint: %s, want %s", i, fault, want)
		}
	}
}
