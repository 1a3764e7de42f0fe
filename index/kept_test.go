package index

import (
	"testing"

	"berth/api"
	"berth/domain"
)

// What goes leaves nothing behind: in an index whose rows have gone no part keeps anything of them.
func TestNothingIsLeft(t *testing.T) {
	x := New()
	full := api.Node{Name: "a", Labels: []api.Label{{Key: "rank", Value: "3"}, {Key: "zone", Value: "x"}}, Taints: []api.Taint{{Key: "gpu", Effect: api.NoSchedule}}, Cap: []api.Item{{Name: "cpu", N: 4}}}
	other := api.Node{Name: "a", Labels: []api.Label{{Key: "disk", Value: "7"}}, Taints: []api.Taint{{Key: "gpu", Value: "x", Effect: api.NoSchedule}, {Key: "old", Effect: api.NoExecute}}, Cap: []api.Item{{Name: "mem", N: 4}}, Cordoned: true}
	for i, ch := range []api.Change{
		{Kind: api.ChangeNodeAdd, Now: full}, {Kind: api.ChangePodAdd, Pod: api.Pod{Name: "p", Labels: full.Labels}},
		{Kind: api.ChangeNodeSet, Now: other}, {Kind: api.ChangeNodeSet, Now: full}, {Kind: api.ChangePodDel}, {Kind: api.ChangeNodeDel},
	} {
		if err := x.Apply(ch); err != api.OK {
			t.Fatalf("change %d: %d", i, err)
		}
	}
	if len(x.rows.nodes)+len(x.rows.pods)+len(x.nodes.names)+len(x.pods.names)+len(x.taints) != 0 {
		t.Errorf("left: %v %v %v %v %v", x.rows.nodes, x.rows.pods, x.nodes.names, x.pods.names, x.taints)
	}
	for what, keys := range map[string][]string{
		"labels": x.nodes.labels.Keys(), "pods' labels": x.pods.labels.Keys(), "numbers": x.nodes.numbers.Keys(), "pods' numbers": x.pods.numbers.Keys(), "capacities": x.caps.amounts.Keys(),
	} {
		if len(keys) != 0 {
			t.Errorf("%s: %q are left", what, keys)
		}
	}
	if x.open.nodes.Count() != 0 || !domain.Same(x.areas.domains, nil) {
		t.Error("an open node or a domain is left")
	}
}
