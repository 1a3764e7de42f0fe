package gen_test

import (
	"fmt"
	"math"
	"math/rand/v2"
	"slices"
	"strings"
	"testing"

	"berth/api"
	"berth/cluster"
)

// chance makes dags, sources, pods and clusters by chance.
type chance struct{ *rand.Rand }

func newChance(seed uint64) chance { return chance{rand.New(rand.NewPCG(19, seed))} }

func one[T any](r chance, list ...T) T { return list[r.IntN(len(list))] }

// Few words, so that constants are often the same and what is asked for is often there.
var (
	someKeys   = []string{"zone", "rack", "n"}
	someValues = []string{"x", "y", "1", "2", "3", "-1"}
	someNames  = []string{"a0", "b0", "c0", "p0", "p1"}
)

// some are a few of a list, in its order; now and then none.
func some[T any](r chance, list []T) []T {
	return slices.DeleteFunc(slices.Clone(list), func(T) bool { return r.IntN(3) > 0 })
}

func (r chance) ofTexts(side api.Side) api.Lit {
	if r.IntN(3) == 0 {
		return texts(nameTerm(side), some(r, someNames)...)
	}
	return texts(labelTerm(side, one(r, "zone", "rack")), some(r, []string{"", "1", "x", "y"})...)
}

func (r chance) ofNumber(term api.Term) api.Lit {
	switch r.IntN(5) {
	case 0:
		return beside(term, one(r, api.CmpEq, api.CmpLt, api.CmpLe, api.CmpGt, api.CmpGe), numTerm(api.OfPod, one(r, "n", "zone")))
	case 1, 2:
		return nums(term, some(r, []int{-1, 0, 1, 2, 3})...)
	}
	return rel(term, one(r, api.CmpLe, api.CmpGe), r.IntN(5)-1)
}

func (r chance) own() api.Term {
	return one(r, labelTerm(api.OfPod, one(r, "zone", "rack")), nameTerm(api.OfPod))
}

// literal is one that may stand where side moves; for nodes it may speak of the selectors in these places.
func (r chance) literal(side api.Side, sels []int) api.Lit {
	term := one(r, textTerm(one(r, "zone", "t", "n")), r.own())
	switch r.IntN(9) {
	case 0, 1:
		return r.ofTexts(one(r, side, side, api.OfPod))
	case 2:
		return r.ofNumber(numTerm(one(r, side, side, api.OfPod), "n"))
	case 3:
		return inKeys(term, one(r, side, api.OfPod))
	case 4:
		return inKeys(one(r, labelTerm(side, "zone"), nameTerm(side)), api.OfPod)
	case 5:
		return beside(one(r, labelTerm(side, "zone"), nameTerm(side), r.own()), api.CmpEq, r.own())
	}
	if side == api.OfIt {
		return inKeys(term, side)
	}
	if len(sels) > 0 && r.IntN(4) > 0 {
		sel := one(r, sels...)
		return one(r, near(one(r, "zone", "rack"), sel), r.ofNumber(countTerm(one(r, "zone", "rack"), sel)))
	}
	return one(r, tol(api.NoSchedule), inTaints(term), r.ofNumber(capTerm("cpu")))
}

// dag is a valid one of up to that many parts: with doubles, and with parts that are not reached.
func (r chance) dag(most int) api.Dag {
	var out api.Dag
	places := map[bool][]int{}
	elements := 0
	for range 1 + r.IntN(most) {
		pods := r.IntN(3) == 0
		part := r.part(pods, places)
		elements += len(part.Lit.Texts) + len(part.Lit.Nums)
		if elements > api.MaxParts {
			break
		}
		places[pods] = append(places[pods], len(out.Parts))
		out.Parts = append(out.Parts, part)
	}
	if len(places[false]) == 0 {
		out.Parts = append(out.Parts, leaf(tol(api.NoExecute)))
		places[false] = []int{len(out.Parts) - 1}
	}
	out.Root = r.late(places[false])
	return out
}

// part is one behind others that stand in these places.
func (r chance) part(pods bool, places map[bool][]int) api.DagPart {
	var part api.DagPart
	side := map[bool]api.Side{false: api.OfNode, true: api.OfIt}[pods]
	earlier := places[pods]
	switch n := r.IntN(10); {
	case n < 3 || len(earlier) == 0:
		part = leaf(r.literal(side, places[true]))
	case n == 3:
		part = one(r, yes, no)
	case n < 6:
		part = node(api.DNot, r.late(earlier))
	default:
		kids := make([]int, 2+r.IntN(2)*r.IntN(3))
		for i := range kids {
			kids[i] = r.late(earlier)
		}
		part = node(one(r, api.DAnd, api.DOr), kids...)
	}
	part.Pods = pods
	return part
}

// crowded is a valid dag of about that many parts, nearly all of which the Root reaches; one in so many joints has parts as its kids that others use, too, the others have a literal of their own.
func (r chance) crowded(n, oneIn int) api.Dag {
	parts := []api.DagPart{s, forPods(yes), forPods(leaf(r.literal(api.OfIt, nil))), yes, leaf(tol(api.NoSchedule))}
	places := map[bool][]int{true: {0, 1, 2}, false: {3, 4}}
	for len(parts) < n {
		pods := r.IntN(4) == 0
		earlier := places[pods]
		kids := []int{earlier[len(earlier)-1], r.late(earlier)}
		if r.IntN(oneIn) > 0 {
			side := map[bool]api.Side{false: api.OfNode, true: api.OfIt}[pods]
			own := leaf(r.literal(side, places[true]))
			own.Pods = pods
			kids[1], parts = len(parts), append(parts, own)
		}
		if r.IntN(2) == 0 {
			slices.Reverse(kids)
		}
		part := node(one(r, api.DAnd, api.DOr), kids...)
		if r.IntN(6) == 0 {
			part = node(api.DNot, earlier[len(earlier)-1])
		}
		part.Pods = pods
		places[pods] = append(places[pods], len(parts))
		parts = append(parts, part)
	}
	if !parts[len(parts)-1].Pods {
		return dag(parts...)
	}
	return dag(append(parts, leaf(near("zone", len(parts)-1)))...)
}

// late is a place, often one of the last.
func (r chance) late(places []int) int {
	if r.IntN(3) == 0 {
		return one(r, places...)
	}
	return one(r, places[max(0, len(places)-4):]...)
}

func (r chance) anyTerm() api.Term {
	return api.Term{Kind: api.TermKind(r.IntN(9) - 1), Side: api.Side(r.IntN(6) - 1), Key: one(r, "", "a", strings.Repeat("x", 128)), Sel: one(r, 0, 0, 1, -1)}
}

// spoilLit changes one thing in a literal.
func (r chance) spoilLit(l *api.Lit) {
	switch r.IntN(10) {
	case 0:
		l.Kind = api.LitKind(r.IntN(10) - 1)
	case 1:
		l.Term = r.anyTerm()
	case 2:
		l.Other = r.anyTerm()
	case 3:
		l.Rel = api.Cmp(r.IntN(9) - 1)
	case 4:
		l.Num = one(r, 0, 1, most, most+1, -most, -most-1, int(r.Uint64()))
	case 5:
		l.Of = api.Side(r.IntN(6) - 1)
	case 6:
		l.Sel = r.IntN(5) - 1
	case 7:
		l.Term.Sel = r.IntN(5) - 1
	case 8:
		l.Key = one(r, "", "k", strings.Repeat("k", 127), strings.Repeat("k", 128))
	case 9:
		l.Texts, l.Nums = append(slices.Clone(l.Texts), one(r, "", "zz", strings.Repeat("x", 128))), append(slices.Clone(l.Nums), one(r, 0, 9, most, most+1))
	}
}

// spoil is a dag with one thing changed.
func (r chance) spoil(d api.Dag) api.Dag {
	d = copied(d)
	at := r.IntN(len(d.Parts))
	part := &d.Parts[at]
	place := one(r, -1, 0, at-1, at, at+1, r.IntN(len(d.Parts)), len(d.Parts), math.MaxInt, math.MinInt)
	switch r.IntN(9) {
	case 0:
		d.Root = place
	case 1:
		part.Kind = api.DagKind(r.IntN(9) - 1)
	case 2:
		part.Pods = !part.Pods
	case 3:
		part.Kids = append(part.Kids, place)
	case 4:
		if len(part.Kids) > 0 {
			part.Kids[r.IntN(len(part.Kids))] = place
		}
	case 5:
		part.Kids = part.Kids[:max(0, len(part.Kids)-1)]
	case 6:
		d.Parts[at], d.Parts[0] = d.Parts[0], d.Parts[at]
	default:
		r.spoilLit(&part.Lit)
	}
	return d
}

// copied is a dag in memory of its own.
func copied(d api.Dag) api.Dag {
	d.Parts = slices.Clone(d.Parts)
	for i := range d.Parts {
		part := &d.Parts[i]
		part.Kids, part.Lit.Texts, part.Lit.Nums = slices.Clone(part.Kids), slices.Clone(part.Lit.Texts), slices.Clone(part.Lit.Nums)
	}
	return d
}

// source is a condition in the language, at most so deep, of a node or, in a selector, of it.
func (r chance) source(who string, deep int) string {
	if deep > 0 && r.IntN(4) > 0 {
		first, second := r.source(who, deep-1), r.source(who, deep-1)
		if r.IntN(4) == 0 {
			second = first
		}
		join := one(r, " && ", " || ")
		return one(r, "!", "", "") + "(" + first + join + second + one(r, "", join+"true", join+r.source(who, deep-2)) + ")"
	}
	number := fmt.Sprintf(`int(%s["n"])`, one(r, who, who, "pod"))
	if who == "node" {
		selector := r.source("it", min(deep, 1))
		switch r.IntN(8) {
		case 0, 1:
			return fmt.Sprintf("%s(%q, %s)", one(r, "near", "apart"), one(r, "zone", "rack"), selector)
		case 2:
			return one(r, `tolerated("NoSchedule")`, `"t" in node.taints`, `pod["zone"] in node.taints`)
		case 3, 4:
			number = fmt.Sprintf("count(%q, %s)", one(r, "zone", "rack"), selector)
		case 5:
			number = `node.cap("cpu")`
		}
	}
	switch r.IntN(6) {
	case 0:
		return fmt.Sprintf("%s %s {%d, %d}", number, one(r, "in", "notin"), r.IntN(4), r.IntN(4))
	case 1:
		return fmt.Sprintf(`%s %s int(pod["n"])`, number, one(r, cmpMarks[1:]...))
	case 2:
		return fmt.Sprintf("%s %s %d", number, one(r, cmpMarks[1:]...), r.IntN(4))
	case 3:
		return fmt.Sprintf("%s.name %s pod.name", who, one(r, "==", "!="))
	case 4:
		return fmt.Sprintf("%s in %s.keys", one(r, `"zone"`, `"n"`, `pod["zone"]`), one(r, who, "pod"))
	}
	return fmt.Sprintf(`%s[%q] %s {"x", %q}`, who, one(r, "zone", "rack"), one(r, "in", "notin"), one(r, someValues...))
}

func (r chance) labels() []api.Label {
	var out []api.Label
	for _, key := range some(r, slices.Concat(someKeys, someKeys)) {
		if !slices.ContainsFunc(out, func(l api.Label) bool { return l.Key == key }) {
			out = append(out, api.Label{Key: key, Value: one(r, someValues...)})
		}
	}
	return out
}

func (r chance) pod(name string) api.Pod {
	p := api.Pod{Name: name, Labels: r.labels()}
	if r.IntN(2) == 0 {
		p.Tolerations = []api.Toleration{{Key: "t", Op: api.Exists}}
	}
	return p
}

func (r chance) cluster(t *testing.T, nodes, pods int) *cluster.Cluster {
	t.Helper()
	out := cluster.New()
	for i := range nodes {
		n := api.Node{Name: string(rune('a'+i)) + "0", Labels: r.labels()}
		if r.IntN(2) == 0 {
			n.Taints = []api.Taint{{Key: one(r, "t", "zone"), Effect: api.NoSchedule}}
		}
		if r.IntN(2) == 0 {
			n.Cap = []api.Item{{Name: "cpu", N: r.IntN(4)}}
		}
		if _, err := out.Add(n); err != nil {
			t.Fatal(err)
		}
	}
	for i := range pods {
		if _, err := out.Bind(r.pod(fmt.Sprint("p", i)), out.Nodes()[r.IntN(nodes)]); err != nil {
			t.Fatal(err)
		}
	}
	return out
}
