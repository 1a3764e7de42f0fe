package filter_test

import (
	"fmt"
	"strings"
	"testing"

	"berth/api"
	"berth/cluster"
	"berth/filter"
	"berth/index"
)

// P23.4, P23.5: each set of the six lines of the table stands against a node, and the first is told; where none stands, the node fits.
func TestEachSetOfVerdicts(t *testing.T) {
	for set := range 64 {
		is := func(verdict int) bool { return set>>(verdict-1)&1 == 1 }
		node := api.Node{Name: "n", Labels: tags("zone", "x"), Cap: cpu(2), Cordoned: is(1)}
		if is(2) {
			node.Taints = []api.Taint{{Key: "t", Effect: api.NoExecute}}
		}
		p := api.Pod{Name: "p", Labels: tags("app", "web"), Needs: cpu(1), Require: `node["zone"] == "x"`, Apart: apart("zone", `it.name == "none"`)}
		if is(3) {
			p.Needs = cpu(3)
		}
		if is(4) {
			p.Require = `true && node["zone"] == "y"`
		}
		if is(5) {
			p.Apart = append(p.Apart, apart("zone", `it.name == "near"`)...)
		}
		shunning := apart("zone", `it["app"] == "db"`)
		if is(6) {
			shunning = append(shunning, apart("zone", `it["app"] == "web"`)...)
		}
		c := clusterOf(t, []api.Node{node, {Name: "m", Labels: tags("zone", "x")}}, stand{api.Pod{Name: "near"}, "m"}, stand{api.Pod{Name: "shun", Apart: shunning}, "m"})
		reasons := []api.Reason{because(1, 0, ""), because(2, 0, "t:NoExecute"), because(3, 0, "cpu"), because(4, 3, ""), because(5, 1, "near"), because(6, 1, "shun")}
		want := api.Reason{}
		for verdict := 6; verdict >= 1; verdict-- {
			if is(verdict) {
				want = reasons[verdict-1]
			}
		}
		why, err := filter.Explain(c, p, "n")
		if err != nil || why != want {
			t.Errorf("set %06b: %v, %s, want %v", set, why, told(err), want)
		}
		against := agree(t, c, index.Build(c), p)[1]
		for verdict := 1; verdict <= 6; verdict++ {
			if is(verdict) && (len(against) == 0 || against[0] != reasons[verdict-1]) {
				t.Fatalf("set %06b: the model tells %v", set, against)
			}
			if is(verdict) {
				against = against[1:]
			}
		}
		if len(against) > 0 {
			t.Errorf("set %06b: the model tells %v, too", set, against)
		}
	}
}

// P23.4, P23.5: a cordoned node takes no pod, whatever the pod tolerates.
func TestCordoned(t *testing.T) {
	c := clusterOf(t, []api.Node{{Name: "a", Cordoned: true}, {Name: "b"}})
	p := api.Pod{Name: "p", Tolerations: []api.Toleration{{Op: api.Exists}}}
	expectReasons(t, c, p, "b", because(api.IsCordoned, 0, ""), api.Reason{})
	c.Cordon("a", false)
	c.Cordon("b", true)
	expectReasons(t, c, p, "a", api.Reason{}, because(api.IsCordoned, 0, ""))
}

// P23.4, P23.5, L11: taints of each effect; the first one of the node's list that is not tolerated is told.
func TestTainted(t *testing.T) {
	taints := func(texts ...string) (out []api.Taint) {
		for _, text := range texts {
			rest, effect, _ := strings.Cut(text, ":")
			key, value, _ := strings.Cut(rest, "=")
			out = append(out, api.Taint{Key: key, Value: value, Effect: effect})
		}
		return out
	}
	exists := func(key, effect string) api.Toleration {
		return api.Toleration{Key: key, Op: api.Exists, Effect: effect}
	}
	equal := func(key, value, effect string) api.Toleration {
		return api.Toleration{Key: key, Op: api.Equal, Value: value, Effect: effect}
	}
	all := []string{"c:NoSchedule", "b=v:NoSchedule", "b:NoExecute", "a=1:PreferNoSchedule"}
	for _, c := range []struct {
		taints      []string
		tolerations []api.Toleration
		told        string
	}{
		{nil, nil, ""}, {[]string{"a:NoSchedule"}, nil, "a:NoSchedule"}, {[]string{"a=v:NoExecute"}, nil, "a=v:NoExecute"}, {[]string{"a:PreferNoSchedule"}, nil, ""},
		{all, nil, "b:NoExecute"},
		{all, []api.Toleration{exists("b", api.NoExecute)}, "b=v:NoSchedule"},
		{all, []api.Toleration{exists("b", api.NoSchedule)}, "b:NoExecute"},
		{all, []api.Toleration{exists("b", "")}, "c:NoSchedule"},
		{all, []api.Toleration{exists("", api.NoSchedule)}, "b:NoExecute"},
		{all, []api.Toleration{exists("", api.NoExecute)}, "b=v:NoSchedule"},
		{all, []api.Toleration{exists("", api.PreferNoSchedule)}, "b:NoExecute"},
		{all, []api.Toleration{exists("", api.NoExecute), exists("c", "")}, "b=v:NoSchedule"},
		{all, []api.Toleration{exists("", api.NoExecute), exists("c", ""), equal("b", "v", "")}, ""},
		{all, []api.Toleration{exists("", api.NoExecute), exists("c", ""), equal("b", "w", "")}, "b=v:NoSchedule"},
		{all, []api.Toleration{exists("", api.NoExecute), exists("c", ""), equal("b", "", "")}, "b=v:NoSchedule"},
		{all, []api.Toleration{equal("b", "", api.NoExecute), exists("", api.NoSchedule)}, ""},
		{all, []api.Toleration{exists("", "")}, ""},
		{[]string{"a:NoExecute", "a:NoSchedule", "a:PreferNoSchedule"}, []api.Toleration{exists("a", api.NoExecute)}, "a:NoSchedule"},
	} {
		cl := clusterOf(t, []api.Node{{Name: "n", Taints: taints(c.taints...)}})
		p := api.Pod{Name: "p", Tolerations: c.tolerations}
		if c.told == "" {
			expectReasons(t, cl, p, "n", api.Reason{})
			continue
		}
		expectReasons(t, cl, p, "", because(api.IsTainted, 0, c.told))
	}
}

// P23.4, P23.5: a node that is full by one, and one that is just not full; the first resource by name is told.
func TestFull(t *testing.T) {
	items := func(cpu, mem int) []api.Item { return []api.Item{{Name: "mem", N: mem}, {Name: "cpu", N: cpu}} }
	const most = api.MaxAmount
	for _, c := range []struct {
		has, used, needs []api.Item
		told             string
	}{
		{cpu(4), cpu(3), cpu(1), ""}, {cpu(4), cpu(3), cpu(2), "cpu"}, {cpu(4), nil, cpu(4), ""}, {cpu(4), nil, cpu(5), "cpu"}, {cpu(4), cpu(4), cpu(1), "cpu"}, {cpu(4), cpu(4), nil, ""}, {cpu(4), cpu(4), cpu(0), ""},
		{nil, nil, nil, ""}, {nil, nil, cpu(1), "cpu"}, {cpu(4), nil, items(4, 1), "mem"}, {cpu(4), nil, items(5, 1), "cpu"},
		{items(4, 4), items(3, 3), items(1, 1), ""}, {items(4, 4), items(3, 3), items(1, 2), "mem"}, {items(4, 4), items(3, 3), items(2, 2), "cpu"}, {items(4, 4), items(0, 3), items(4, 1), ""},
		{cpu(most), cpu(most - 1), cpu(1), ""}, {cpu(most), cpu(most - 1), cpu(2), "cpu"}, {cpu(most), cpu(most), cpu(most), "cpu"}, {cpu(most - 1), nil, cpu(most), "cpu"}, {cpu(most), nil, cpu(most), ""},
	} {
		cl := clusterOf(t, []api.Node{{Name: "n", Cap: c.has}}, stand{api.Pod{Name: "q", Needs: c.used}, "n"})
		p := api.Pod{Name: "p", Needs: c.needs}
		if c.told == "" {
			expectReasons(t, cl, p, "n", api.Reason{})
			continue
		}
		expectReasons(t, cl, p, "", because(api.IsFull, 0, c.told))
	}
	// what all pods of the node need together; the pod that is handed in may have the name of a bound one (L3)
	cl := clusterOf(t, []api.Node{{Name: "m", Cap: cpu(9)}, {Name: "n", Cap: cpu(9)}}, stand{api.Pod{Name: "q1", Needs: cpu(3)}, "n"}, stand{api.Pod{Name: "q2", Needs: cpu(4)}, "n"}, stand{api.Pod{Name: "q3", Needs: cpu(8)}, "m"})
	full := because(api.IsFull, 0, "cpu")
	expectReasons(t, cl, api.Pod{Name: "p", Needs: cpu(2)}, "n", full, api.Reason{})
	expectReasons(t, cl, api.Pod{Name: "q2", Needs: cpu(3)}, "", full, full)
	expectReasons(t, cl, api.Pod{Name: "q3", Needs: cpu(1)}, "m n", api.Reason{}, api.Reason{})
}

// P23.4, P23.5, L10: a Require that is empty, that holds, that doesn't: with the part that decides.
func TestBarred(t *testing.T) {
	c := clusterOf(t, []api.Node{{Name: "a", Labels: tags("zone", "x", "n", "7")}, {Name: "b", Labels: tags("zone", "y")}}, stand{api.Pod{Name: "q", Labels: tags("app", "web")}, "b"})
	fits := api.Reason{}
	barred := func(part int) api.Reason { return because(api.IsBarred, part, "") }
	for _, x := range []struct {
		require, feasible string
		a, b              api.Reason
	}{
		{"", "a b", fits, fits}, {"true", "a b", fits, fits}, {"false", "", barred(0), barred(0)}, {"!true", "", barred(0), barred(0)}, {"!!true", "a b", fits, fits},
		{`node["zone"] == "x"`, "a", fits, barred(2)}, {`node["zone"] != "x"`, "b", barred(2), fits}, {`!(node["zone"] == "x")`, "b", barred(2), fits},
		{`node["zone"] == "x" && node.name == "b"`, "", barred(5), barred(2)}, {`true && (node["zone"] == "x" || false)`, "a", fits, barred(5)},
		{`int(node["n"]) < 8`, "a", fits, barred(3)}, {`!(int(node["n"]) < 8)`, "b", barred(3), fits},
		{`near("zone", it["app"] == "web")`, "b", barred(3), fits}, {`apart("zone", it["app"] == "web")`, "a", fits, barred(3)},
		{`node.name == pod["app"]`, "a", fits, barred(2)}, {`pod.name == "q"`, "", barred(2), barred(2)}, {`tolerated("NoSchedule")`, "a b", fits, fits},
	} {
		expectReasons(t, c, api.Pod{Name: "p", Labels: tags("app", "a"), Require: x.require}, x.feasible, x.a, x.b)
	}
}

// rooms are five nodes: two in zone x, one of them in rack 1 with another of zone y; one of zone z; one without labels.
func rooms(t *testing.T, pods ...stand) *cluster.Cluster {
	t.Helper()
	return clusterOf(t, []api.Node{
		{Name: "a", Labels: tags("zone", "x")}, {Name: "b", Labels: tags("zone", "x", "rack", "1")},
		{Name: "c", Labels: tags("zone", "y", "rack", "1")}, {Name: "d", Labels: tags("zone", "z", "other", "1")}, {Name: "e"},
	}, pods...)
}

// P23.4, P23.5, L2, L3, L9: the pod's own apart terms.
func TestNear(t *testing.T) {
	web := func(name string) api.Pod { return api.Pod{Name: name, Labels: tags("app", "web", "n", "1")} }
	c := rooms(t, stand{web("q2"), "b"}, stand{web("q10"), "b"}, stand{web("r"), "d"}, stand{web("s"), "e"}, stand{api.Pod{Name: "q1"}, "a"})
	fits := api.Reason{}
	near := func(part int, name string) api.Reason { return because(api.IsNear, part, name) }
	for _, x := range []struct {
		terms            []api.Apart
		feasible         string
		at, bt, ct, d, e api.Reason
	}{
		{nil, "a b c d e", fits, fits, fits, fits, fits},
		// the least name, by its bytes; a bound pod on the node itself; nodes without the key
		{apart("zone", `it["app"] == "web"`), "c e", near(0, "q10"), near(0, "q10"), fits, near(0, "r"), fits},
		{apart("zone", `true`), "c e", near(0, "q1"), near(0, "q1"), fits, near(0, "r"), fits},
		{apart("rack", `it["app"] == "web"`), "a d e", fits, near(0, "q10"), near(0, "q10"), fits, fits},
		{apart("rack", `it.name == "q2"`), "a d e", fits, near(0, "q2"), near(0, "q2"), fits, fits},
		{apart("none", `true`), "a b c d e", fits, fits, fits, fits, fits},
		{apart("zone", `false`), "a b c d e", fits, fits, fits, fits, fits},
		// the first of several terms, not the least name of all
		{apart("none", `true`, "zone", `it.name == "q2"`, "zone", `true`), "c e", near(1, "q2"), near(1, "q2"), fits, near(2, "r"), fits},
		{apart("rack", `it.name == "q2"`, "zone", `it.name == "q1"`), "d e", near(1, "q1"), near(0, "q2"), near(0, "q2"), fits, fits},
		// what hangs on the pod to be placed, which has a bound pod's name
		{apart("zone", `it.name == pod.name`), "c d e", near(0, "q1"), near(0, "q1"), fits, fits, fits},
		{apart("zone", `it.name != pod.name && it["app"] == pod["app"]`), "c e", near(0, "q10"), near(0, "q10"), fits, near(0, "r"), fits},
		{apart("zone", `int(it["n"]) < int(pod["n"])`), "c e", near(0, "q10"), near(0, "q10"), fits, near(0, "r"), fits},
	} {
		p := api.Pod{Name: "q1", Labels: tags("app", "web", "n", "2"), Apart: x.terms}
		expectReasons(t, c, p, x.feasible, x.at, x.bt, x.ct, x.d, x.e)
	}
}

// P23.4, P23.5, L9: apart terms of bound pods; those that say nothing bar nothing.
func TestShunned(t *testing.T) {
	fits := api.Reason{}
	shunned := func(part int, name string) api.Reason { return because(api.IsShunned, part, name) }
	with := func(name, app string, pairs ...string) api.Pod {
		return api.Pod{Name: name, Labels: tags("app", app, "n", "1"), Apart: apart(pairs...)}
	}
	for _, x := range []struct {
		bound            []stand
		feasible         string
		at, bt, ct, d, e api.Reason
	}{
		{[]stand{{with("q", "web"), "b"}}, "a b c d e", fits, fits, fits, fits, fits},
		{[]stand{{with("q", "db", "zone", "true"), "b"}}, "c d e", shunned(0, "q"), shunned(0, "q"), fits, fits, fits},
		{[]stand{{with("q", "db", "zone", "false"), "b"}}, "a b c d e", fits, fits, fits, fits, fits},
		{[]stand{{with("q", "db", "rack", "true"), "b"}}, "a d e", fits, shunned(0, "q"), shunned(0, "q"), fits, fits},
		// its node lacks the key
		{[]stand{{with("q", "db", "zone", "true"), "e"}}, "a b c d e", fits, fits, fits, fits, fits},
		{[]stand{{with("q", "db", "other", "true"), "b"}}, "a b c d e", fits, fits, fits, fits, fits},
		// pod is the bound pod, it is the pod to be placed
		{[]stand{{with("q", "db", "zone", `it["app"] == "web" && pod["app"] == "db"`), "b"}}, "c d e", shunned(0, "q"), shunned(0, "q"), fits, fits, fits},
		{[]stand{{with("q", "db", "zone", `pod["app"] == "web" || it["app"] == "db"`), "b"}}, "a b c d e", fits, fits, fits, fits, fits},
		{[]stand{{with("q", "web", "zone", `it["app"] == pod["app"]`), "b"}}, "c d e", shunned(0, "q"), shunned(0, "q"), fits, fits, fits},
		{[]stand{{with("q", "db", "zone", `int(it["n"]) > int(pod["n"])`), "b"}}, "c d e", shunned(0, "q"), shunned(0, "q"), fits, fits, fits},
		{[]stand{{with("q", "db", "zone", `int(it["n"]) < int(pod["n"])`), "b"}}, "a b c d e", fits, fits, fits, fits, fits},
		// bound raw: no key, no selector, none that reads
		{[]stand{{with("q", "db", "", "true", "a b", "true", "zone", "", "zone", "&", "zone", `node.name == "a"`, "zone", `near("zone", true)`, "zone", "true &&"), "b"}}, "a b c d e", fits, fits, fits, fits, fits},
		{[]stand{{with("q", "db", "", "true", "zone", "", "zone", "true", "rack", "true"), "b"}}, "d e", shunned(2, "q"), shunned(2, "q"), shunned(3, "q"), fits, fits},
		// the first of several terms, and the least name of several pods: the name goes ahead of the place
		{[]stand{{with("q2", "db", "zone", "true"), "a"}, {with("q10", "db", "none", "true", "zone", "false", "zone", "true", "zone", "true"), "b"}}, "c d e", shunned(2, "q10"), shunned(2, "q10"), fits, fits, fits},
		{[]stand{{with("q2", "db", "rack", "true", "zone", "true"), "b"}, {with("q3", "db", "zone", "true"), "c"}, {with("q1", "db", "zone", "true"), "d"}}, "e", shunned(1, "q2"), shunned(0, "q2"), shunned(0, "q2"), shunned(0, "q1"), fits},
		// it has the pod's own name (L3)
		{[]stand{{with("p", "db", "zone", `it.name == pod.name`), "d"}}, "a b c e", fits, fits, fits, shunned(0, "p"), fits},
	} {
		expectReasons(t, rooms(t, x.bound...), api.Pod{Name: "p", Labels: tags("app", "web", "n", "2")}, x.feasible, x.at, x.bt, x.ct, x.d, x.e)
	}
	many := with("q", "db")
	for range 100 {
		many.Apart = append(many.Apart, api.Apart{Topo: "zone", Select: "false"})
	}
	many.Apart = append(many.Apart, api.Apart{Topo: "zone", Select: "true"})
	expectReasons(t, rooms(t, stand{many, "d"}), api.Pod{Name: "p"}, "a b c e", fits, fits, fits, shunned(100, "q"), fits)
}

// P23.4, P23.5, L9: the empty value of a key is a domain like any other; nodes without the key are not in it.
func TestEmptyValue(t *testing.T) {
	nodes := []api.Node{{Name: "a", Labels: tags("zone", "")}, {Name: "b", Labels: tags("rack", "")}, {Name: "c"}, {Name: "d", Labels: tags("rack", "", "zone", "")}}
	fits, near, shunned := api.Reason{}, because(api.IsNear, 0, "q"), because(api.IsShunned, 0, "q")
	c := clusterOf(t, nodes, stand{api.Pod{Name: "q", Apart: apart("zone", "true")}, "a"})
	expectReasons(t, c, api.Pod{Name: "p"}, "b c", shunned, fits, fits, shunned)
	expectReasons(t, c, api.Pod{Name: "p", Apart: apart("zone", "true")}, "b c", near, fits, fits, near)
	c = clusterOf(t, nodes, stand{api.Pod{Name: "q", Apart: apart("zone", "true")}, "b"})
	expectReasons(t, c, api.Pod{Name: "p"}, "a b c d", fits, fits, fits, fits)
	expectReasons(t, c, api.Pod{Name: "p", Apart: apart("zone", "true")}, "a b c d", fits, fits, fits, fits)
}

// P23.5: a node that isn't there, behind the faults of the pod; a node that is there is told of by its whole name alone.
func TestExplainOfNoNode(t *testing.T) {
	c := chapterCluster(t)
	for _, node := range []string{"", "e", "A", "aa", "a ", "q", "a\x00", "\xff", strings.Repeat("n", 1000)} {
		why, err := filter.Explain(c, api.Pod{Name: "p"}, node)
		if f, is := err.(*api.Fault); why != (api.Reason{}) || !is || f.Code != api.ErrMeanNode || f.At != -1 || f.Name != node || f.Cause != nil {
			t.Errorf("at %q: %v, %s", node, why, told(err))
		}
		if _, err := filter.Explain(c, api.Pod{Name: "p", Priority: -1000001}, node); told(err) != "234 at -1" {
			t.Errorf("at %q: %s", node, told(err))
		}
	}
}

// P23.4, P23.5: random pods over the indexes that were kept of random clusters, node by node; each verdict is told, and stands behind others.
func TestAnyPodAtAnyNode(t *testing.T) {
	r := newChance(30)
	first, behind, part := map[int]int{}, map[int]int{}, map[int]int{}
	for range 250 {
		c := r.course(t, one(r, 0, 5, 30, 60, 100))
		for range 8 {
			p := one(r, r.pod("new"), r.pod("new"), r.pod(c.guest()), r.rawPod())
			for _, against := range agree(t, c.c, c.x, p) {
				for i, reason := range append(against, api.Reason{}) {
					if i == 0 {
						first[reason.Verdict]++
					} else {
						behind[reason.Verdict]++
					}
					if reason.Part > 0 {
						part[reason.Verdict]++
					}
				}
			}
			agree(t, c.c, index.Build(c.c), p)
			c.step(t)
		}
	}
	for verdict := range 7 {
		if first[verdict] < 100 || verdict > 1 && behind[verdict] < 100 || verdict > 3 && part[verdict] < 100 {
			t.Errorf("verdict %d: only %d times the first, %d times behind another, %d times of a later part", verdict, first[verdict], behind[verdict], part[verdict])
		}
	}
}

// DOC.md P5: what Feasible answers may be bound there, and is so; then no line of the table stood against it.
func TestFeasibleMayBeBound(t *testing.T) {
	r := newChance(31)
	bound := 0
	for range 100 {
		c := r.course(t, 40)
		for i := range 10 {
			p := r.pod(fmt.Sprint("new", i))
			names, err := filter.Feasible(c.c, c.x, p)
			if err != nil {
				t.Fatal(told(err))
			}
			if len(names) == 0 {
				continue
			}
			change, err := c.c.Bind(p, one(r, names...))
			if err != nil {
				t.Fatalf("%+v: %q: %s", p, names, told(err))
			}
			c.hear(t, change, err)
			bound++
		}
	}
	if bound < 200 {
		t.Errorf("only %d pods were bound", bound)
	}
}
