package score_test

import (
	"testing"

	"berth/api"
	"berth/cluster"
	"berth/index"
	"berth/score"
)

// R7: a nil cluster has no nodes; the faults are the same, and in their order.
func TestNil(t *testing.T) {
	r := newChance(40)
	for range 300 {
		p, names := r.rawPod(), one(r, nil, []string{"a0"}, []string{"", "a0"})
		want := answers(cluster.New(), index.New(), p, names)
		for _, c := range []*cluster.Cluster{nil, cluster.New()} {
			for _, x := range []*index.Index{nil, index.New(), index.Build(nil)} {
				if got := answers(c, x, p, names); got != want {
					t.Fatalf("%q for %+v: %s, want %s", names, p, got, want)
				}
			}
		}
	}
	p := api.Pod{Name: "p", Labels: tags("app", "web")}
	expectNoBest(t, nil, nil, p, "240 at -1")
	expectNoBest(t, nil, nil, p, "241 at 0 a", "a", "b")
	if points, err := score.Points(nil, nil, p, "a"); told(err) != "241 at -1 a" || points != (api.Points{}) {
		t.Errorf("%+v, %s", points, told(err))
	}
}

// R11, P1: with an index that is not the cluster's the calls end.
func TestAnotherIndex(t *testing.T) {
	r := newChance(41)
	for range 100 {
		c, other := r.course(t, 40), r.course(t, one(r, 0, 10, 60))
		for _, x := range []*index.Index{nil, index.New(), other.x} {
			for _, cl := range []*cluster.Cluster{nil, c.c} {
				for range 3 {
					answers(cl, x, one(r, r.pod("new"), r.rawPod()), r.names(c.c))
				}
			}
		}
	}
}
