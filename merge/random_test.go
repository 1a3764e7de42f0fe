package merge_test

import (
	"slices"
	"strings"
	"testing"

	"berth/api"
	"berth/cluster"
	"berth/mean"
	"berth/merge"
	"berth/norm"
	"berth/parse"
)

// holdsAt: at which nodes of a cluster a plan is true.
func holdsAt(c *cluster.Cluster, p api.Plan, pod api.Pod) []string {
	var out []string
	for _, name := range c.Nodes() {
		n, _ := c.Node(name)
		if (sight{plan: p, c: c, pod: pod, node: n}).holds(p.Main) {
			out = append(out, name)
		}
	}
	return out
}

// P17.1 to P17.4: random plans for nodes, with their meaning over random clusters.
func TestRandomPlans(t *testing.T) {
	r := newChance(1)
	seen := map[string]int{}
	for range 400 {
		c := r.cluster(t, 1+r.IntN(8), r.IntN(10))
		for range 30 {
			p := r.plan()
			got := check(t, p)
			pod := r.pod(one(r, someNames...))
			was, now := holdsAt(c, p, pod), holdsAt(c, got, pod)
			if !slices.Equal(was, now) {
				t.Fatalf("%s holds at %v,\n%s at %v", short(p), was, short(got), now)
			}
			seen[kindOf(p, got)]++
			if len(was) > 0 && len(was) < len(c.Nodes()) {
				seen["decided by the node"]++
			}
		}
	}
	for _, each := range []string{"constant", "literal", "smaller", "same", "decided by the node"} {
		if seen[each] < 500 {
			t.Errorf("only %d plans: %s (%v)", seen[each], each, seen)
		}
	}
}

// kindOf: what has become of a plan.
func kindOf(p, got api.Plan) string {
	switch {
	case samePlan(p, got):
		return "same"
	case len(got.Main) == 1 && got.Main[0].Kind == api.PLit:
		return "literal"
	case len(got.Main) == 1:
		return "constant"
	}
	return "smaller"
}

// P17.1 to P17.4: random plans for pods.
func TestRandomSelectors(t *testing.T) {
	r := newChance(2)
	selects := map[bool]int{}
	for range 5000 {
		p := plan(r.part(api.OfIt, 0, r.IntN(5)))
		got := check(t, p)
		for range 5 {
			s := sight{pod: r.pod(one(r, someNames...)), it: r.pod(one(r, someNames...))}
			was := s.holds(p.Main)
			if s.holds(got.Main) != was {
				t.Fatalf("%s and %s mean other things for %+v", short(p), short(got), s)
			}
			selects[was]++
		}
	}
	if selects[true] < 2000 || selects[false] < 2000 {
		t.Error(selects)
	}
}

// P17.1 to P17.4: random range literals of two Terms, in both kinds of parts, one in the other.
func TestRandomRanges(t *testing.T) {
	r := newChance(3)
	n := numTerm(api.OfNode, "n")
	for range 20000 {
		var kids []twig
		for range 2 + r.IntN(6) {
			l := one(r, r.ofNumber(n), r.ofNumber(n), r.ofTexts(api.OfNode))
			if r.IntN(2) == 0 {
				l = not(l)
			}
			kids = append(kids, l)
		}
		w := one(r, and, or)(kids...)
		p := plan(one(r, w, and(a, w), or(w, not(w)), and(w, one(r, and, or)(w, r.ofNumber(n)))))
		got := check(t, p)
		for range 4 {
			seen := sight{node: api.Node{Name: "a0", Labels: r.labels()}, pod: r.pod("p")}
			if seen.holds(p.Main) != seen.holds(got.Main) {
				t.Fatalf("%s and %s mean other things at %+v", short(p), short(got), seen.node)
			}
		}
	}
}

// copied is a plan in memory of its own.
func copied(p api.Plan) api.Plan {
	each := func(list []api.PlanPart) []api.PlanPart {
		out := slices.Clone(list)
		for i := range out {
			out[i].Kids, out[i].Lit.Texts, out[i].Lit.Nums = slices.Clone(out[i].Kids), slices.Clone(out[i].Lit.Texts), slices.Clone(out[i].Lit.Nums)
		}
		return out
	}
	out := api.Plan{Main: each(p.Main)}
	for _, list := range p.Sels {
		out.Sels = append(out.Sels, each(list))
	}
	return out
}

func (r chance) anyTerm() api.Term {
	return api.Term{Kind: api.TermKind(r.IntN(9) - 1), Side: api.Side(r.IntN(6) - 1), Key: one(r, "", "a", strings.Repeat("x", 128)), Sel: one(r, 0, 0, 1, -1)}
}

// spoil changes one thing in a part.
func (r chance) spoil(part *api.PlanPart, n int) {
	l := &part.Lit
	switch r.IntN(13) {
	case 0:
		part.Kind = api.PlanKind(r.IntN(8) - 1)
	case 1:
		part.Neg = !part.Neg
	case 2:
		part.Kids = append(part.Kids, r.IntN(n+2)-1)
	case 3:
		slices.Reverse(part.Kids)
	case 4:
		l.Kind = api.LitKind(r.IntN(10) - 1)
	case 5:
		l.Term = r.anyTerm()
	case 6:
		l.Other = r.anyTerm()
	case 7:
		l.Rel = api.Cmp(r.IntN(9) - 1)
	case 8:
		l.Num = one(r, 0, 1, most, most+1, -most, -most-1, int(r.Uint64()))
	case 9:
		l.Of = api.Side(r.IntN(6) - 1)
	case 10:
		l.Sel = r.IntN(5) - 1
	case 11:
		l.Texts = append(l.Texts, one(r, "", "zz", strings.Repeat("x", 128)))
	case 12:
		l.Nums = append(l.Nums, one(r, 0, 9, most, most+1))
	}
}

// P17.1, P1: random plans with up to three things changed: those that are no longer valid are refused, the others are made as ever.
func TestSpoiledPlans(t *testing.T) {
	r := newChance(4)
	seen := map[bool]int{}
	for range 8000 {
		p := r.plan()
		for range 3 {
			p = copied(p)
			spot := one(r, append(slices.Clone(p.Sels), p.Main)...)
			r.spoil(&spot[r.IntN(len(spot))], len(spot))
			valid := norm.Valid(p)
			seen[valid]++
			if valid {
				check(t, p)
				continue
			}
			if got, e := merge.Merge(p); e != api.ErrPlan || got.Main != nil || got.Sels != nil || merge.Cost(p) != 0 {
				t.Fatalf("%+v: %+v, %d, %d", p, got, e, merge.Cost(p))
			}
		}
	}
	if seen[true] < 1000 || seen[false] < 5000 {
		t.Error(seen)
	}
}

// P17.2, DOC.md P3: from a source on: what is left of its plan holds just where layer 15 says that the constraint does.
func TestMeaningOfSources(t *testing.T) {
	r := newChance(6)
	for _, source := range []string{
		`node["zone"] in {"x", "y"} && node["zone"] != "x" || !(int(node["n"]) < 2) && int(node["n"]) notin {2, 3}`,
		`count("zone", it["rack"] == "x" && it["rack"] != "y") >= 1 && count("zone", it["rack"] == "x") < 3`,
		`near("rack", it["n"] == "1") || near("rack", it["n"] == "1" || false) || apart("zone", it.name == pod.name)`,
		`!(count("rack", false) >= 1) && !(count("rack", false) < 0)`,
		`(tolerated("NoSchedule") || "t" in node.taints) && ("t" in node.taints || tolerated("NoSchedule")) && node.cap("cpu") > 0 && node.cap("cpu") <= 2`,
		`int(pod["n"]) >= 1 && int(pod["n"]) <= 1 || int(node["n"]) == int(pod["n"]) && (true || node.name == "a0")`,
	} {
		tree, _, err := parse.Parse(source)
		if err != nil {
			t.Fatal(err)
		}
		got := check(t, read(t, source))
		for range 40 {
			c, pod := r.cluster(t, 6, 8), r.pod("p0")
			want, err := mean.Where(c, tree, pod)
			if names := holdsAt(c, got, pod); err != nil || !slices.Equal(names, want) {
				t.Fatalf("%s holds at %v (%v), %s at %v", source, want, err, short(got), names)
			}
		}
	}
}
