package vm_test

import (
	"fmt"
	"slices"
	"strings"
	"testing"

	"berth/api"
	"berth/audit"
	"berth/cluster"
	"berth/code"
	"berth/gen"
	"berth/index"
	"berth/mean"
	"berth/merge"
	"berth/norm"
	"berth/parse"
	"berth/share"
	"berth/vm"
)

// compiled is the program that gen makes of share of merge of norm of a tree.
func compiled(t *testing.T, tree api.Tree) api.Program {
	t.Helper()
	plan, e := norm.Plan(tree, api.OfNode)
	small, f := merge.Merge(plan)
	dag, g := share.Share(small)
	p, h := gen.Gen(dag)
	if e != api.OK || f != api.OK || g != api.OK || h != api.OK {
		t.Fatalf("%s: %d, %d, %d, %d", short(fmt.Sprint(tree)), e, f, g, h)
	}
	return p
}

func parsed(t *testing.T, source string) api.Tree {
	t.Helper()
	tree, _, err := parse.Parse(source)
	if err != nil {
		t.Fatalf("%s: %v", source, err)
	}
	return tree
}

// agrees holds P22.4: the program is run with OK, and its answer is the slots of just those nodes at which mean.Holds says true. It hands on their names.
func agrees(t *testing.T, what any, c *cluster.Cluster, x *index.Index, p api.Program, tree api.Tree, pod api.Pod) []string {
	t.Helper()
	set, stat, e := vm.Run(p, x, pod)
	if e != api.OK || stat.Steps > len(p.Code) || stat.Depth > p.Depth {
		t.Fatalf("%v: %s: %+v, %d", what, told(p), stat, e)
	}
	var names []string
	for slot, name := range c.Slots() {
		holds, err := mean.Holds(c, tree, pod, name)
		if err != nil || holds != set.Has(slot) {
			t.Fatalf("%v at %s for %+v: it holds: %v, %v\n%s: %v", what, name, pod, holds, err, told(p), set.Members())
		}
		if holds {
			names = append(names, name)
		}
	}
	if len(names) != set.Count() {
		t.Fatalf("%v: %s: %v, more than %v", what, told(p), set.Members(), names)
	}
	slices.Sort(names)
	return names
}

// DOC.md, P22.4: the examples of the whole that a run can tell.
func TestExamplesOfTheWhole(t *testing.T) {
	c := cluster.New()
	add := func(name string, list ...string) {
		if _, err := c.Add(api.Node{Name: name, Labels: tags(list...)}); err != nil {
			t.Fatal(err)
		}
	}
	add("a", "zone", "x")
	add("b", "zone", "x", "disk", "hdd")
	add("c", "zone", "y")
	add("d")
	matches := func(source, want string) {
		t.Helper()
		tree := parsed(t, source)
		if got := strings.Join(agrees(t, source, c, index.Build(c), compiled(t, tree), tree, api.Pod{}), " "); got != want {
			t.Errorf("%s: %s, want %s", source, got, want)
		}
	}
	matches(`node["zone"] in {"x", "z"} && !(node["disk"] == "hdd")`, "a")
	matches(`node["zone"] != "x"`, "c d")
	matches(`!(node["zone"] == "x")`, "c d")
	matches(`node["zone"] == "x" && node["zone"] in {"y"}`, "")
	matches(`node["zone"] == "x" || node["zone"] != "x"`, "a b c d")
	matches(`true`, "a b c d")
	for name, value := range map[string]string{"a": "7", "b": "07", "c": "-1"} {
		if _, err := c.Label(name, "gen", value); err != nil {
			t.Fatal(err)
		}
	}
	matches(`int(node["gen"]) < 8`, "a c")
	matches(`!(int(node["gen"]) < 8)`, "b d")
	matches(`int(node["gen"]) >= 8`, "")
	if _, err := c.Bind(api.Pod{Name: "w", Labels: tags("app", "web")}, "a"); err != nil {
		t.Fatal(err)
	}
	matches(`near("zone", it["app"] == "web")`, "a b")
	matches(`apart("zone", it["app"] == "web")`, "c d")
	matches(`count("zone", true) == 0`, "c")
	matches(`count("zone", true) != 1`, "c d")
}

// sources say something of every kind.
var sources = []string{
	`true`, `false`, `node.name in {"a0", "c0"}`, `node.name != pod.name`, `node.name == "b0" || node["zone"] == "x"`,
	`node["zone"] in {"x", "y"} && node["rack"] != "x" || !(int(node["n"]) < 2) && int(node["n"]) notin {2, 3}`,
	`node["zone"] == pod["zone"]`, `node["zone"] != pod["zone"]`, `pod["zone"] == pod["rack"] || pod.name == pod["app"]`, `node["app"] in {}`, `node["app"] notin {}`,
	`int(node["n"]) == int(pod["n"])`, `int(node["n"]) != int(pod["n"])`, `int(node["n"]) < int(pod["n"])`, `!(int(node["n"]) < int(pod["n"]))`, `int(node["n"]) >= int(pod["n"])`,
	`int(pod["n"]) != int(pod["rack"])`, `int(pod["n"]) < int(pod["rack"])`, `int(pod["n"]) in {1, 2, 3}`, `int(pod["n"]) notin {1}`, `int(pod["n"]) >= 1 && int(pod["n"]) <= 1`, `3 != int(pod["n"])`,
	`node.cap("cpu") > 1`, `node.cap("cpu") == 0`, `node.cap("cpu") != int(pod["n"])`, `node.cap("mem") in {0, 2}`, `node.cap("mem") < int(pod["n"]) || node.cap("cpu") notin {1}`,
	`"zone" in node.keys`, `pod["app"] in node.keys`, `pod["app"] notin node.keys`, `node["zone"] in pod.keys`, `node.name in pod.keys`, `"zone" in pod.keys`, `pod.name in pod.keys`, `pod["zone"] in {"x", ""}`,
	`"t" in node.taints`, `pod["zone"] in node.taints`, `pod.name notin node.taints`, `tolerated("NoSchedule")`, `!tolerated("NoExecute") || tolerated("PreferNoSchedule")`,
	`near("zone", true)`, `apart("zone", true)`, `near("rack", it["app"] == pod["app"])`, `apart("zone", it.name == pod.name)`, `near("zone", it.name != pod.name)`, `near("zone", !(it["app"] == "web"))`, `near("app", false)`,
	`count("zone", true) == 0`, `count("zone", true) != 1`, `!(count("zone", true) == 1)`, `count("zone", it["app"] == "web") >= 1`, `count("rack", int(it["n"]) > 0) in {0, 1}`, `count("rack", int(it["n"]) > 0) notin {0, 1}`,
	`count("zone", it["rack"] in {"x", "y"}) < int(pod["n"])`, `count("zone", "n" in it.keys) != int(pod["n"])`, `count("zone", int(it["n"]) != int(pod["n"])) <= 2`, `count("zone", it.name in pod.keys || pod.name == "p0") > 0`,
	`near("zone", it["app"] == "web") && (node["zone"] == "x" || apart("rack", it["app"] == "web")) || count("zone", it["app"] == "web") == 2`,
	`near("zone", it["n"] == "1" && "zone" in pod.keys && int(pod["n"]) > 0)`, `near("zone", it["app"] in pod.keys) || near("zone", pod["app"] in it.keys)`,
	`!(!(node["zone"] == "x" && !(near("zone", it["n"] in {"1", "2"}))) || tolerated("NoSchedule"))`,
	`(tolerated("NoSchedule") || "t" in node.taints) && (node.cap("cpu") > 0 || !("t" in node.taints && tolerated("NoSchedule")))`,
}

// P22.4: sources by hand over clusters of several shapes, the index kept and built anew.
func TestSources(t *testing.T) {
	r := newChance(11)
	some := map[string]int{}
	var courses []course
	for _, steps := range []int{0, 3, 10, 20, 40, 60, 60, 60, 100, 100} {
		courses = append(courses, r.cluster(t, steps))
	}
	for _, source := range sources {
		tree := parsed(t, source)
		p := compiled(t, tree)
		for _, c := range courses {
			for _, pod := range []api.Pod{{}, {Name: "p0", Labels: tags("app", "web", "n", "1", "zone", "x")}, r.rawPod(), r.rawPod()} {
				names := agrees(t, source, c.c, c.x, p, tree, pod)
				agrees(t, source, c.c, index.Build(c.c), p, tree, pod)
				if len(names) > 0 && len(names) < len(c.c.Nodes()) {
					some[source]++
				}
			}
		}
	}
	if len(some) < len(sources)/2 {
		t.Errorf("only %d sources hold at some nodes and not at others", len(some))
	}
}

// P22.4, DOC.md P3: random trees that sorts accepts, over the indexes that were kept of random clusters, for raw pods; the program also as it comes out of its bytes.
func TestRandomTrees(t *testing.T) {
	r := newChance(12)
	seen, ops := map[string]int{}, map[api.Op]int{}
	for range 500 {
		c := r.cluster(t, one(r, 5, 30, 60, 100))
		for range 12 {
			tree, pod := r.tree(one(r, 1, 3, 5, 6, 7)), r.rawPod()
			p := compiled(t, tree)
			what := short(fmt.Sprint(tree))
			names := agrees(t, what, c.c, c.x, p, tree, pod)
			bytes, e := code.Encode(p)
			again, _, err := audit.Bytes(bytes)
			if e != api.OK || err != nil {
				t.Fatalf("%s: %d, %v", told(p), e, err)
			}
			if other := agrees(t, what, c.c, c.x, again, tree, pod); !slices.Equal(other, names) {
				t.Fatalf("%s: %v, %v", told(p), names, other)
			}
			if len(names) > 0 && len(names) < len(c.c.Nodes()) {
				seen["decided by the node"]++
			}
			if p.Locals > 0 {
				seen["locals"]++
			}
			if p.Depth > 3 {
				seen["deep"]++
			}
			for _, i := range p.Code {
				ops[i.Op]++
			}
			c.step(t)
		}
	}
	for _, each := range []string{"decided by the node", "locals", "deep"} {
		if seen[each] < 250 {
			t.Errorf("only %d: %s (%v)", seen[each], each, seen)
		}
	}
	for o := api.Op(1); o <= 36; o++ {
		if ops[o] < 20 && o != api.OpPop {
			t.Errorf("only %d times %s", ops[o], lines[o].name)
		}
	}
}

// P22.4: a compiled program is run alike as its cluster goes on, node by node and pod by pod.
func TestAsTheClusterGoesOn(t *testing.T) {
	r := newChance(13)
	for _, source := range sources {
		tree, c, pod := parsed(t, source), r.newCourse(), r.rawPod()
		p := compiled(t, tree)
		for k := range 50 {
			c.step(t)
			if k%20 == 19 {
				c.drain(t, c.node())
			}
			agrees(t, source, c.c, c.x, p, tree, pod)
		}
	}
}

// nested is a source of that many pairs of parentheses within one another, with a join of each kind in each.
func nested(n int, open, inner, who string) string {
	var out strings.Builder
	for i := range n {
		fmt.Fprintf(&out, `"k%d" in %s.keys || int(%s["n"]) != %d && %s(`, 2*i, who, who, i, open)
	}
	return out.String() + inner + strings.Repeat(")", n)
}

// P22.4: the most deeply nested sources, and trees of as many parts as there can be.
func TestGreatTrees(t *testing.T) {
	r := newChance(14)
	spread := func(n int, make func(i int) branch) []branch {
		var out []branch
		for i := range n {
			out = append(out, make(i))
		}
		return out
	}
	nearOf := func(i int) branch {
		return of(one(r, api.KNear, api.KApart), someKeys[i%5], 0, of(api.KIn, "", i/5%2, of(api.KText, someKeys[i/10%5], 0), of(api.KKeys, "", int(api.OfIt))))
	}
	label := func(i int) branch {
		return of(api.KCmp, "", 1+i%2, of(api.KLabel, someKeys[i%5], int(api.OfNode)), of(api.KText, someValues[i/5%9], 0))
	}
	trees := []api.Tree{
		parsed(t, nested(32, "", `tolerated("NoSchedule")`, "node")),
		parsed(t, nested(16, "!", `node.cap("cpu") < 2`, "node")),
		parsed(t, nested(15, "", `count("zone", `+nested(16, "", `it.name == pod.name`, "it")+") < 3", "node")),
		parsed(t, nested(8, "!", `apart("zone", `+nested(7, "!", `int(pod["n"]) < int(pod["rack"])`, "it")+")", "node")),
		treeOf(part(api.KOr, spread(199, nearOf)...)),
		treeOf(part(api.KAnd, spread(199, nearOf)...)),
		treeOf(part(api.KAnd, spread(90, func(i int) branch { return part(api.KOr, label(i), label(2*i+1), label(3*i+2)) })...)),
		treeOf(part(api.KOr, spread(80, func(i int) branch { return part(api.KAnd, label(i), nearOf(i), part(api.KNot, label(2*i))) })...)),
	}
	for k, tree := range trees {
		p := compiled(t, tree)
		for range 6 {
			c := r.cluster(t, one(r, 30, 60))
			agrees(t, k, c.c, c.x, p, tree, r.rawPod())
		}
	}
}

// P22.4: the greatest cluster, and one that has lost every other node.
func TestGreatCluster(t *testing.T) {
	c := full(t)
	pod := api.Pod{Labels: tags("app", "3"), Tolerations: []api.Toleration{{Key: "t2", Op: api.Exists}}}
	for _, half := range []bool{false, true} {
		for i := 0; half && i < api.MaxNodes; i += 2 {
			for _, pod := range c.On(fmt.Sprint("n", i)) {
				c.Unbind(pod)
			}
			if _, err := c.Remove(fmt.Sprint("n", i)); err != nil {
				t.Fatal(err)
			}
		}
		for _, source := range []string{
			`node["zone"] in {"1", "3"} && node.cap("cpu") >= 4 || near("rack", it["app"] == "7" && int(it["rank"]) > 90)`,
			`count("rack", it["app"] == pod["app"]) >= 4 && !("t1" in node.taints)`,
			`apart("host", int(it["rank"]) < 50) && tolerated("NoSchedule")`,
		} {
			tree := parsed(t, source)
			agrees(t, source, c, index.Build(c), compiled(t, tree), tree, pod)
		}
	}
}
