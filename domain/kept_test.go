package domain

import (
	"testing"

	"berth/api"
)

// Ways, layer 9: a count goes when it comes to 0, and a domain with its last node: behind nodes and pods that come and go nothing is left of them.
func TestNothingIsLeft(t *testing.T) {
	d := New()
	list := func(key, value string) []api.Label { return []api.Label{{Key: key, Value: value}} }
	course := []struct {
		ch             api.Change
		counts, groups int
	}{
		{api.Change{Kind: api.ChangeNodeAdd, Now: api.Node{Labels: list("zone", "a")}}, 0, 1},
		{api.Change{Kind: api.ChangePodAdd, Pod: api.Pod{Labels: list("app", "web")}}, 1, 1},
		{api.Change{Kind: api.ChangePodAdd, PodSlot: 1, Pod: api.Pod{Labels: list("app", "db")}}, 2, 1},
		{api.Change{Kind: api.ChangePodAdd, PodSlot: 2, Pod: api.Pod{Labels: list("app", "db")}}, 2, 1},
		{api.Change{Kind: api.ChangeNodeSet, Now: api.Node{Labels: list("rack", "1")}}, 2, 1},
		{api.Change{Kind: api.ChangePodDel, PodSlot: 1}, 2, 1},
		{api.Change{Kind: api.ChangePodDel, PodSlot: 2}, 1, 1},
		{api.Change{Kind: api.ChangeNodeSet}, 0, 0},
		{api.Change{Kind: api.ChangePodDel}, 0, 0},
		{api.Change{Kind: api.ChangeNodeDel}, 0, 0},
	}
	for i, x := range course {
		if err := d.Apply(x.ch); err != api.OK || len(d.counts) != x.counts || len(d.areas) != x.groups {
			t.Errorf("change %d: %d, %d counts, %d keys", i, err, len(d.counts), len(d.areas))
		}
	}
	if len(d.nodes) != 0 || len(d.pods) != 0 {
		t.Errorf("%d nodes and %d pods are left", len(d.nodes), len(d.pods))
	}
}
