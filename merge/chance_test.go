package merge_test

import (
	"fmt"
	"math/rand/v2"
	"slices"
	"testing"

	"berth/api"
	"berth/cluster"
)

// chance makes plans, pods and clusters by chance.
type chance struct{ *rand.Rand }

func newChance(seed uint64) chance { return chance{rand.New(rand.NewPCG(17, seed))} }

func one[T any](r chance, list ...T) T { return list[r.IntN(len(list))] }

// Few words, so that parts are often alike and what is asked for is often there.
var (
	someKeys   = []string{"zone", "rack", "n"}
	someValues = []string{"x", "y", "1", "2", "3", "-1"}
	someNames  = []string{"a0", "b0", "c0", "p0", "p1"}
)

// some are a few of a list, in its order; now and then none.
func some[T any](r chance, list []T) []T {
	return slices.DeleteFunc(slices.Clone(list), func(T) bool { return r.IntN(3) > 0 })
}

// ofTexts is a set literal of texts.
func (r chance) ofTexts(side api.Side) twig {
	if r.IntN(3) == 0 {
		return texts(nameTerm(side), some(r, someNames)...)
	}
	return texts(labelTerm(side, one(r, "zone", "rack")), some(r, []string{"", "1", "x", "y"})...)
}

// ofNumber is a range literal of a number term, or one that holds it against the pod's.
func (r chance) ofNumber(term api.Term) twig {
	switch r.IntN(7) {
	case 0:
		return beside(term, one(r, api.CmpEq, api.CmpLt, api.CmpGe), numTerm(api.OfPod, "n"))
	case 1, 2:
		return nums(term, some(r, []int{-1, 0, 1, 2, 3})...)
	}
	return rel(term, one(r, api.CmpLe, api.CmpGe), r.IntN(6)-1)
}

// literal is one that may stand where side moves; in Main it may speak of the selectors.
func (r chance) literal(side api.Side, sels int) twig {
	term := textTerm(one(r, "zone", "t"))
	switch r.IntN(10) {
	case 0, 1, 2:
		return r.ofTexts(one(r, side, side, api.OfPod))
	case 3, 4, 5:
		return r.ofNumber(numTerm(one(r, side, side, api.OfPod), "n"))
	case 6:
		return inKeys(term, one(r, side, api.OfPod))
	case 7:
		return beside(labelTerm(side, "zone"), api.CmpEq, nameTerm(api.OfPod))
	}
	if side == api.OfIt {
		return inKeys(term, side)
	}
	if sels > 0 && r.IntN(4) > 0 {
		sel := r.IntN(sels)
		return one(r, near(one(r, "zone", "rack"), sel), r.ofNumber(countTerm(one(r, "zone", "rack"), sel)))
	}
	return one(r, tol(api.NoSchedule), inTaints(term), r.ofNumber(capTerm("cpu")))
}

// part is a part of a list, at most so deep.
func (r chance) part(side api.Side, sels, deep int) twig {
	if deep == 0 || r.IntN(3) == 0 {
		if r.IntN(15) == 0 {
			return one(r, yes, no)
		}
		l := r.literal(side, sels)
		if r.IntN(2) == 0 {
			l = not(l)
		}
		return l
	}
	kids := make([]twig, 2+r.IntN(2)*r.IntN(4))
	for i := range kids {
		kids[i] = r.part(side, sels, deep-1)
		if i > 0 && r.IntN(6) == 0 {
			kids[i] = r.resembling(kids[r.IntN(i)])
		}
	}
	return one(r, and, or)(kids...)
}

// resembling is a twig as it is, or one that is nearly alike: that is absorbed, or absorbs, or contradicts.
func (r chance) resembling(w twig) twig {
	w.kids = slices.Clone(w.kids)
	switch {
	case r.IntN(4) == 0:
		return not(w)
	case len(w.kids) > 2 && r.IntN(2) == 0:
		w.kids = w.kids[1:]
	case len(w.kids) > 0 && r.IntN(2) == 0:
		r.Shuffle(len(w.kids), func(i, j int) { w.kids[i], w.kids[j] = w.kids[j], w.kids[i] })
	case len(w.kids) == 0 && r.IntN(2) == 0:
		return one(r, and, or)(w, inKeys(textTerm("zone"), api.OfPod))
	}
	return w
}

// plan is one for nodes, with up to four selectors.
func (r chance) plan() api.Plan {
	sels := make([]twig, r.IntN(5))
	for i := range sels {
		sels[i] = r.part(api.OfIt, 0, r.IntN(3))
		if i > 0 && r.IntN(4) == 0 {
			sels[i] = one(r, and(yes, sels[i-1]), sels[i-1], or(sels[i-1], no))
		}
	}
	return plan(r.part(api.OfNode, len(sels), r.IntN(5)), sels...)
}

func (r chance) labels() []api.Label {
	var out []api.Label
	for _, key := range some(r, slices.Concat(someKeys, someKeys)) {
		if !slices.ContainsFunc(out, func(l api.Label) bool { return l.Key == key }) {
			out = append(out, api.Label{Key: key, Value: one(r, someValues...)})
		}
	}
	return out
}

func (r chance) pod(name string) api.Pod {
	p := api.Pod{Name: name, Labels: r.labels()}
	if r.IntN(2) == 0 {
		p.Tolerations = []api.Toleration{{Key: "t", Op: api.Exists}}
	}
	return p
}

func (r chance) cluster(t *testing.T, nodes, pods int) *cluster.Cluster {
	t.Helper()
	out := cluster.New()
	for i := range nodes {
		n := api.Node{Name: string(rune('a'+i)) + "0", Labels: r.labels()}
		if r.IntN(2) == 0 {
			n.Taints = []api.Taint{{Key: one(r, "t", "zone"), Effect: api.NoSchedule}}
		}
		if r.IntN(2) == 0 {
			n.Cap = []api.Item{{Name: "cpu", N: r.IntN(4)}}
		}
		if _, err := out.Add(n); err != nil {
			t.Fatal(err)
		}
	}
	for i := range pods {
		if _, err := out.Bind(r.pod(fmt.Sprint("p", i)), out.Nodes()[r.IntN(nodes)]); err != nil {
			t.Fatal(err)
		}
	}
	return out
}
