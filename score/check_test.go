package score_test

import (
	"errors"
	"fmt"
	"strings"
	"testing"

	"berth/api"
	"berth/cluster"
	"berth/index"
	"berth/score"
)

func tags(pairs ...string) []api.Label {
	var out []api.Label
	for i := 0; i < len(pairs); i += 2 {
		out = append(out, api.Label{Key: pairs[i], Value: pairs[i+1]})
	}
	return out
}

// items are amounts of cpu, gpu and mem, as many as there are; those of -1 are left out.
func items(amounts ...int) []api.Item {
	var out []api.Item
	for i, n := range amounts {
		if n >= 0 {
			out = append(out, api.Item{Name: []string{"cpu", "gpu", "mem"}[i], N: n})
		}
	}
	return out
}

// soft are so many taints that cost points.
func soft(n int) []api.Taint {
	var out []api.Taint
	for i := range n {
		out = append(out, api.Taint{Key: fmt.Sprint("t", i), Effect: api.PreferNoSchedule})
	}
	return out
}

// wish is a preferred constraint.
func wish(weight int, text string) api.Prefer { return api.Prefer{Weight: weight, Text: text} }

// stand is a pod and the node to which it is bound.
type stand struct {
	pod  api.Pod
	node string
}

// clusterOf has these nodes and these bound pods, which come in this order; the index is built of it.
func clusterOf(t *testing.T, nodes []api.Node, pods ...stand) (*cluster.Cluster, *index.Index) {
	t.Helper()
	c := cluster.New()
	for _, n := range nodes {
		if _, err := c.Add(n); err != nil {
			t.Fatal(err)
		}
	}
	for _, s := range pods {
		if _, err := c.Bind(s.pod, s.node); err != nil {
			t.Fatal(err)
		}
	}
	return c, index.Build(c)
}

// told is a fault in words: its code, its place, its name, and its cause in brackets. It holds R2: a fault is a *api.Fault itself and no nil pointer, a cause an api.Errno or such a fault.
func told(err error) string {
	if err == nil {
		return "none"
	}
	f, is := err.(*api.Fault)
	if !is || f == nil || f.Code == api.OK || !errors.Is(err, f.Code) {
		return fmt.Sprintf("no fault: %#v", err)
	}
	out := strings.TrimSpace(fmt.Sprint(int(f.Code), " at ", f.At, " ", f.Name))
	if number, is := f.Cause.(api.Errno); is {
		return out + fmt.Sprint(" (the number ", int(number), ")")
	}
	if f.Cause != nil {
		out += " (" + told(f.Cause) + ")"
	}
	return out
}

// expectPoints holds a node's points to what is written down here: the five parts; and to the model.
func expectPoints(t *testing.T, c *cluster.Cluster, x *index.Index, p api.Pod, node string, least, balance, prefer, spread, taint int) {
	t.Helper()
	want := api.Points{Least: least, Balance: balance, Prefer: prefer, Spread: spread, Taint: taint}
	want.Total = least + balance + prefer + 2*spread + 3*taint
	got, err := score.Points(c, x, p, node)
	if err != nil || got != want {
		t.Errorf("Points of %s for %+v: %+v, %s, want %+v", node, p, got, told(err), want)
	}
	if by := pointsOf(t, c, p, node); by != want {
		t.Errorf("the model of %s for %+v: %+v, want %+v", node, p, by, want)
	}
}

// agree holds Best of a list to Points of its nodes, and these to the model (P24.1, P24.2).
func agree(t *testing.T, c *cluster.Cluster, x *index.Index, p api.Pod, nodes []string) {
	t.Helper()
	name, best, err := score.Best(c, x, p, nodes)
	if fault := append(faultsOfBest(c, p, nodes), "none")[0]; told(err) != fault {
		t.Fatalf("Best of %q for %+v: %s, want %s", nodes, p, told(err), fault)
	}
	if err != nil && (name != "" || best != api.Points{}) {
		t.Fatalf("Best of %q for %+v: %q, %+v beside %s", nodes, p, name, best, told(err))
	}
	among := false
	for _, node := range nodes {
		points, other := score.Points(c, x, p, node)
		if fault := append(faultsOfPoints(c, p, node), "none")[0]; told(other) != fault {
			t.Fatalf("Points of %q for %+v: %s, want %s", node, p, told(other), fault)
		}
		want := api.Points{}
		if other == nil {
			want = pointsOf(t, c, p, node)
		}
		if points != want {
			t.Fatalf("Points of %q for %+v: %+v, want %+v", node, p, points, want)
		}
		if err != nil {
			continue
		}
		if points.Total > best.Total || points.Total == best.Total && node < name {
			t.Fatalf("Best of %q for %+v: %s, %+v; %s has %+v", nodes, p, name, best, node, points)
		}
		if node == name {
			among = true
			if points != best {
				t.Fatalf("Best of %q for %+v: %s, %+v, want %+v", nodes, p, name, best, points)
			}
		}
	}
	if err == nil && !among {
		t.Fatalf("Best of %q for %+v: %q", nodes, p, name)
	}
}
