package mean_test

import (
	"testing"

	"berth/api"
	"berth/cluster"
	"berth/mean"
)

// kindsCluster has a node with a label, a taint and a resource of those that the parts ask for, one with others, and one without any.
func kindsCluster(t *testing.T) *cluster.Cluster {
	t.Helper()
	return clusterOf(t, []api.Node{
		{
			Name:   "full",
			Labels: labelled("zone", "x", "rank", "7", "none", ""),
			Taints: []api.Taint{{Key: "gpu", Effect: api.NoSchedule}, {Key: "gpu", Value: "v", Effect: api.NoExecute}, {Key: "arm", Value: "w", Effect: api.PreferNoSchedule}},
			Cap:    []api.Item{{Name: "mem", N: api.MaxAmount}, {Name: "cpu", N: 4}},
		},
		{
			Name:   "other",
			Labels: labelled("zone", "y", "rank", "x7", "Zone", "x"),
			Taints: []api.Taint{{Key: "zone", Value: "x", Effect: api.NoSchedule}},
			Cap:    []api.Item{{Name: "disk", N: 1}},
		},
		{Name: "bare"},
	})
}

// rawPod has labels out of order, a key twice, and texts that are neither keys nor values.
func rawPod() api.Pod {
	return api.Pod{
		Name:        "No name!",
		Labels:      labelled("zone", "x", "app", "web", "zone", "y", "", "-5", "a b", "\xff", "app", "db", "rank", "4"),
		Tolerations: []api.Toleration{{Key: "gpu", Op: api.Exists, Effect: api.NoSchedule}, {Key: "gpu", Op: api.Equal, Value: "v"}, {Op: "?"}, {Key: "zone", Op: api.Equal}},
	}
}

func known(text string) api.Value    { return api.Value{Sort: api.SortText, Known: true, Text: text} }
func number(n int) api.Value         { return api.Value{Sort: api.SortNum, Known: true, Num: n} }
func truth(is bool) api.Value        { return api.Value{Sort: api.SortBool, Known: true, Bool: is} }
func texts(s ...string) api.Value    { return api.Value{Sort: api.SortTexts, Known: true, Texts: s} }
func numbers(n ...int) api.Value     { return api.Value{Sort: api.SortNums, Known: true, Nums: n} }
func undefined(s api.Sort) api.Value { return api.Value{Sort: s} }

// holder is a condition with a place for a term.
type holder struct {
	of     func(w twig) twig
	second bool // the term stands last, else first
}

// holders of terms of each sort.
var holders = map[api.Sort][]holder{
	api.SortText: {
		{func(w twig) twig { return equal(w, text("x")) }, false},
		{func(w twig) twig { return cmp(text("x"), api.CmpNe, w) }, true},
		{func(w twig) twig { return in(w, set()) }, false},
	},
	api.SortNum: {
		{func(w twig) twig { return equal(w, num(1)) }, false},
		{func(w twig) twig { return cmp(num(1), api.CmpGe, w) }, true},
		{func(w twig) twig { return notin(w, set(num(1))) }, false},
	},
	api.SortTexts: {{func(w twig) twig { return in(text("x"), w) }, true}},
	api.SortNums:  {{func(w twig) twig { return in(num(4), w) }, true}},
	api.SortEmpty: {
		{func(w twig) twig { return in(num(4), w) }, true},
		{func(w twig) twig { return notin(text("x"), w) }, true},
	},
}

// P15.4: what a term of each kind is worth, at a node that has what it asks for, at one that has other things, at one that has nothing. Each is the first kid or the second of a condition, wherever layer 14 takes it.
func TestTermsWorth(t *testing.T) {
	c := kindsCluster(t)
	noText, noNum := undefined(api.SortText), undefined(api.SortNum)
	empty := api.Value{Sort: api.SortEmpty, Known: true}
	for _, x := range []struct {
		term              twig
		full, other, bare api.Value
	}{
		{text("a"), known("a"), known("a"), known("a")},
		{text(""), known(""), known(""), known("")},
		{text("\xff\x00"), known("\xff\x00"), known("\xff\x00"), known("\xff\x00")},
		{num(7), number(7), number(7), number(7)},
		{num(-999999999999999999), number(-999999999999999999), number(-999999999999999999), number(-999999999999999999)},
		{set(), empty, empty, empty},
		{set(text("b"), text("a"), text("b")), texts("a", "b"), texts("a", "b"), texts("a", "b")},
		{set(text("")), texts(""), texts(""), texts("")},
		{set(text("a"), text("B"), text("\xff"), text("é")), texts("B", "a", "é", "\xff"), texts("B", "a", "é", "\xff"), texts("B", "a", "é", "\xff")},
		{set(num(3), num(-1), num(3), num(20)), numbers(-1, 3, 20), numbers(-1, 3, 20), numbers(-1, 3, 20)},
		{label(node, "zone"), known("x"), known("y"), noText},
		{label(node, "none"), known(""), noText, noText},
		{label(node, "Zone"), noText, known("x"), noText},
		{label(pod, "zone"), known("x"), known("x"), known("x")},
		{label(pod, "app"), known("web"), known("web"), known("web")},
		{label(pod, "gpu"), noText, noText, noText},
		{name(node), known("full"), known("other"), known("bare")},
		{name(pod), known("No name!"), known("No name!"), known("No name!")},
		{keys(node), texts("none", "rank", "zone"), texts("Zone", "rank", "zone"), texts()},
		{keys(pod), texts("", "a b", "app", "rank", "zone"), texts("", "a b", "app", "rank", "zone"), texts("", "a b", "app", "rank", "zone")},
		{taints(node), texts("arm", "gpu"), texts("zone"), texts()},
		{capacity(node, "cpu"), number(4), number(0), number(0)},
		{capacity(node, "mem"), number(9223372036854775807), number(0), number(0)},
		{capacity(node, "disk"), number(0), number(1), number(0)},
		{integer(label(node, "rank")), number(7), noNum, noNum},
		{integer(label(node, "none")), noNum, noNum, noNum},
		{integer(label(pod, "rank")), number(4), number(4), number(4)},
		{integer(label(pod, "app")), noNum, noNum, noNum},
		{integer(text("-5")), number(-5), number(-5), number(-5)},
		{integer(text("07")), noNum, noNum, noNum},
		{count("zone", yes), number(0), number(0), noNum},
		{count("none", yes), number(0), noNum, noNum},
	} {
		for _, h := range holders[x.full.Sort] {
			tree := list(h.of(x.term))
			at := len(list(x.term).Parts) - 1
			if h.second {
				at = len(tree.Parts) - 2
			}
			check(t, c, tree, rawPod())
			for named, want := range map[string]api.Value{"full": x.full, "other": x.other, "bare": x.bare} {
				if v, err := mean.Value(c, tree, rawPod(), named, at); !sameValue(v, want) || err != nil {
					t.Errorf("%s at %s of %d: %+v, %v, want %+v", told(tree), named, at, v, err, want)
				}
			}
		}
	}
}

// P15.1, P15.3, P15.4: what a condition of each kind is worth, at the three nodes.
func TestConditionsWorth(t *testing.T) {
	c := kindsCluster(t)
	for _, x := range []struct{ source, want string }{
		{`true`, "[bare full other]"},
		{`false`, "[]"},
		{`!true`, "[]"},
		{`!false`, "[bare full other]"},
		{`!!node.name == "full"`, "[full]"},
		{`node.name == "full"`, "[full]"},
		{`node.name != "full"`, "[bare other]"},
		{`true && node.name == "bare"`, "[bare]"},
		{`node.name == "bare" && node.name == "full"`, "[]"},
		{`true && true && node.name != "bare" && true`, "[full other]"},
		{`node.name == "bare" || node.name == "full" || false`, "[bare full]"},
		{`false || false`, "[]"},
		{`node["zone"] == "x"`, "[full]"},
		{`node["none"] == ""`, "[full]"},
		{`node["none"] != ""`, "[bare other]"},
		{`node["Zone"] == "x"`, "[other]"},
		{`int(node["rank"]) == 7`, "[full]"},
		{`int(node["rank"]) != 7`, "[bare other]"},
		{`int(node["rank"]) != 8`, "[bare full other]"},
		{`int(node["rank"]) < 8`, "[full]"},
		{`int(node["rank"]) <= 6`, "[]"},
		{`int(node["rank"]) > 6`, "[full]"},
		{`int(node["rank"]) >= 7`, "[full]"},
		{`!(int(node["rank"]) > 6)`, "[bare other]"},
		{`node.cap("cpu") == 4`, "[full]"},
		{`node.cap("cpu") == 0`, "[bare other]"},
		{`node.cap("mem") > 999999999999999999`, "[full]"},
		{`node.cap("cpu") >= int(pod["rank"])`, "[full]"},
		{`node.cap("cpu") in {0, 1}`, "[bare other]"},
		{`"zone" in node.keys`, "[full other]"},
		{`"Zone" in node.keys`, "[other]"},
		{`"zone" notin node.keys`, "[bare]"},
		{`pod["app"] in node.keys`, "[]"},
		{`"gpu" in node.taints`, "[full]"},
		{`"gpu" notin node.taints`, "[bare other]"},
		{`"zone" in node.taints`, "[other]"},
		{`"a b" in pod.keys && "" in pod.keys && "b" notin pod.keys`, "[bare full other]"},
		{`node.name in pod.keys`, "[]"},
		{`node["zone"] in {"y", "z", "y"}`, "[other]"},
		{`node["zone"] notin {"y", "z", "y"}`, "[bare full]"},
		{`int(node["rank"]) in {7, 7, -1}`, "[full]"},
		{`int(node["rank"]) notin {7, 7, -1}`, "[bare other]"},
		{`tolerated("NoSchedule")`, "[bare full]"},
		{`tolerated("NoExecute")`, "[bare full other]"},
		{`tolerated("PreferNoSchedule")`, "[bare other]"},
	} {
		expectWhere(t, c, x.source, rawPod(), x.want)
	}
}

// P15.3, L4: tolerated hangs on the effect, on the taints with that effect, and on the pod's tolerations, whatever these are.
func TestTolerated(t *testing.T) {
	c := kindsCluster(t)
	for _, x := range []struct {
		effect      string
		tolerations []api.Toleration
		want        string
	}{
		{api.NoSchedule, nil, "[bare]"},
		{api.NoExecute, nil, "[bare other]"},
		{api.PreferNoSchedule, nil, "[bare other]"},
		{api.NoSchedule, []api.Toleration{{Op: api.Exists}}, "[bare full other]"},
		{api.NoExecute, []api.Toleration{{Op: api.Exists, Effect: api.NoSchedule}}, "[bare other]"},
		{api.NoSchedule, []api.Toleration{{Key: "zone", Op: api.Equal, Value: "x"}}, "[bare other]"},
		{api.NoSchedule, []api.Toleration{{Key: "zone", Op: api.Equal, Value: "y"}}, "[bare]"},
		{api.NoSchedule, []api.Toleration{{Key: "zone", Op: api.Exists, Value: "y"}}, "[bare other]"},
		{api.NoSchedule, []api.Toleration{{Key: "gpu", Op: api.Equal}}, "[bare full]"},
		{api.NoExecute, []api.Toleration{{Key: "gpu", Op: api.Equal}}, "[bare other]"},
		{api.NoExecute, []api.Toleration{{Key: "gpu", Op: "exists"}, {Key: "", Op: ""}}, "[bare other]"},
		{api.NoExecute, []api.Toleration{{Key: "x y", Op: "?"}, {Key: "gpu", Op: api.Equal, Value: "v", Effect: api.NoExecute}}, "[bare full other]"},
	} {
		expectWhere(t, c, `tolerated("`+x.effect+`")`, api.Pod{Tolerations: x.tolerations}, x.want)
	}
}
