package norm_test

import (
	"testing"

	"berth/api"
)

// P16.2: the chapter's examples.
func TestExamples(t *testing.T) {
	for _, x := range []struct{ source, want string }{
		{`node["zone"] != "a"`, `!node["zone"] in ["a"]`},
		{`!(node["a"] == "x" && (true || pod["b"] == "y"))`, `!node["a"] in ["x"]`},
		{`!(node["a"] in {"y", "x", "y"} || 3 > int(node["n"]))`, `!node["a"] in ["x" "y"]; !int(node["n"]) <= 2; and[0 1]`},
		{`int(node["n"]) == int(pod["m"])`, `int(node["n"]) == int(pod["m"])`},
		{`int(pod["m"]) < int(node["n"])`, `int(node["n"]) > int(pod["m"])`},
		{`apart("zone", it["app"] == "web") && near("zone", false)`, `false`},
		{`apart("zone", false)`, `true`},
		{`count("zone", it["app"] == pod["app"]) < 2 || near("host", true)`, `count("zone", #0) <= 1; near("host", #1); or[0 1] | it["app"] == pod["app"] | true`},
		{`int("x") == 1`, `false`},
		{`int("x") != 1`, `true`},
		{`"gpu" in node.keys`, `"gpu" in node.keys`},
		{`node.name notin {}`, `true`},
	} {
		expect(t, x.source, api.OfNode, x.want)
	}
}

// P16.2: the first examples part by part, so that nothing hangs on how a test tells a plan.
func TestExamplesPartByPart(t *testing.T) {
	zone := api.Term{Kind: api.TermLabel, Side: api.OfNode, Key: "zone"}
	count := api.Term{Kind: api.TermCount, Key: "zone"}
	app := api.Lit{Kind: api.LitPod, Term: api.Term{Kind: api.TermLabel, Side: api.OfIt, Key: "app"}, Rel: api.CmpEq, Other: api.Term{Kind: api.TermLabel, Side: api.OfPod, Key: "app"}}
	for _, x := range []struct {
		source string
		want   api.Plan
	}{
		{`node["zone"] != "a"`, api.Plan{Main: []api.PlanPart{{Kind: api.PLit, Neg: true, Lit: api.Lit{Kind: api.LitIn, Term: zone, Texts: []string{"a"}}}}}},
		{`count("zone", it["app"] == pod["app"]) < 2 || near("host", true)`, api.Plan{
			Main: []api.PlanPart{
				{Kind: api.PLit, Lit: api.Lit{Kind: api.LitRel, Term: count, Rel: api.CmpLe, Num: 1}},
				{Kind: api.PLit, Lit: api.Lit{Kind: api.LitNear, Key: "host", Sel: 1}},
				{Kind: api.POr, Kids: []int{0, 1}},
			},
			Sels: [][]api.PlanPart{{{Kind: api.PLit, Lit: app}}, {{Kind: api.PTrue}}},
		}},
	} {
		if p, e := check(t, read(t, x.source), api.OfNode); e != api.OK || !samePlan(p, x.want) {
			t.Errorf("%s: %+v, %d, want %+v", x.source, p, e, x.want)
		}
	}
}
