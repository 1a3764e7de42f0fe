package filter_test

import (
	"testing"

	"berth/api"
	"berth/cluster"
	"berth/filter"
	"berth/index"
)

// R7: a nil cluster has no nodes, and a nil index is that of a cluster without nodes; the faults are the same.
func TestNil(t *testing.T) {
	r := newChance(60)
	for range 300 {
		source, p := r.source(api.OfNode), r.rawPod()
		want := answers(cluster.New(), index.New(), source, p)
		for _, c := range []*cluster.Cluster{nil, cluster.New()} {
			for _, x := range []*index.Index{nil, index.New(), index.Build(nil)} {
				if got := answers(c, x, source, p); got != want {
					t.Fatalf("%s for %+v: %s, want %s", source, p, got, want)
				}
			}
		}
	}
	p := api.Pod{Name: "p", Apart: apart("zone", "true"), Require: "true"}
	for _, c := range []*cluster.Cluster{nil, cluster.New()} {
		names, err := filter.Feasible(c, nil, p)
		other, fault := filter.Match(c, nil, `count("zone", true) == 0 || true`, p)
		if len(names)+len(other) > 0 || err != nil || fault != nil {
			t.Errorf("%q, %s, %q, %s", names, told(err), other, told(fault))
		}
		if why, err := filter.Explain(c, p, "a"); why != (api.Reason{}) || told(err) != "151 at -1 a" {
			t.Errorf("%v, %s", why, told(err))
		}
	}
}

// R11, P1: with an index that is not the cluster's the calls end.
func TestAnotherIndex(t *testing.T) {
	r := newChance(61)
	for range 60 {
		c, other := r.course(t, 40), r.course(t, one(r, 0, 10, 60))
		for _, x := range []*index.Index{nil, index.New(), other.x} {
			for _, cl := range []*cluster.Cluster{nil, c.c} {
				for range 5 {
					answers(cl, x, r.condition(api.OfNode, 3), one(r, r.pod("new"), r.rawPod()))
				}
			}
		}
	}
}
