package filter_test

import (
	"errors"
	"fmt"
	"slices"
	"strings"
	"testing"

	"berth/api"
	"berth/cluster"
	"berth/filter"
	"berth/index"
)

func tags(pairs ...string) []api.Label {
	var out []api.Label
	for i := 0; i < len(pairs); i += 2 {
		out = append(out, api.Label{Key: pairs[i], Value: pairs[i+1]})
	}
	return out
}

func cpu(n int) []api.Item { return []api.Item{{Name: "cpu", N: n}} }

// apart are terms: topology keys, each with its selector behind it.
func apart(pairs ...string) []api.Apart {
	var out []api.Apart
	for i := 0; i < len(pairs); i += 2 {
		out = append(out, api.Apart{Topo: pairs[i], Select: pairs[i+1]})
	}
	return out
}

// stand is a pod and the node to which it is bound.
type stand struct {
	pod  api.Pod
	node string
}

// clusterOf has these nodes and these bound pods, which come in this order.
func clusterOf(t *testing.T, nodes []api.Node, pods ...stand) *cluster.Cluster {
	t.Helper()
	c := cluster.New()
	for _, n := range nodes {
		if _, err := c.Add(n); err != nil {
			t.Fatal(err)
		}
	}
	for _, s := range pods {
		if _, err := c.Bind(s.pod, s.node); err != nil {
			t.Fatal(err)
		}
	}
	return c
}

// told is a fault in words: its code, its place, its name, and its cause in brackets. It holds R2: a fault is a *api.Fault itself and no nil pointer, a cause an api.Errno or such a fault.
func told(err error) string {
	if err == nil {
		return "none"
	}
	f, is := err.(*api.Fault)
	if !is || f == nil || f.Code == api.OK || !errors.Is(err, f.Code) {
		return fmt.Sprintf("no fault: %#v", err)
	}
	out := strings.TrimSpace(fmt.Sprint(int(f.Code), " at ", f.At, " ", f.Name))
	if number, is := f.Cause.(api.Errno); is {
		return out + fmt.Sprint(" (the number ", int(number), ")")
	}
	if f.Cause != nil {
		out += " (" + told(f.Cause) + ")"
	}
	return out
}

// faulty is how a fault is told that has neither a name nor a cause.
func faulty(code api.Errno, at int) string { return told(&api.Fault{Code: code, At: at}) }

// short is a text for a message.
func short(s string) string {
	if len(s) > 400 {
		return s[:400] + fmt.Sprint(" .. (", len(s), " bytes)")
	}
	return s
}

func samePod(a, b api.Pod) bool {
	return a.Name == b.Name && slices.Equal(a.Labels, b.Labels) && slices.Equal(a.Needs, b.Needs) && slices.Equal(a.Tolerations, b.Tolerations) &&
		a.Require == b.Require && slices.Equal(a.Apart, b.Apart) && slices.Equal(a.Prefer, b.Prefer) && a.Priority == b.Priority
}

func sameTree(a, b api.Tree) bool {
	return slices.EqualFunc(a.Parts, b.Parts, func(a, b api.Part) bool {
		return a.Kind == b.Kind && a.Text == b.Text && a.Num == b.Num && slices.Equal(a.Kids, b.Kids)
	})
}

// agree holds Feasible and Explain to the model of the table at every node of a cluster, and to one another (P23.4, P23.5). It hands on what stands against each node, in the order of their names.
func agree(t *testing.T, c *cluster.Cluster, x *index.Index, p api.Pod) [][]api.Reason {
	t.Helper()
	names, err := filter.Feasible(c, x, p)
	made, fault := filter.Check(p)
	if told(err) != told(fault) || err != nil && len(names) > 0 {
		t.Fatalf("Feasible of %+v: %q, %s, want %s", p, names, told(err), told(fault))
	}
	var fit []string
	var all [][]api.Reason
	for _, node := range c.Nodes() {
		why, err := filter.Explain(c, p, node)
		if fault != nil {
			if told(err) != told(fault) || why != (api.Reason{}) {
				t.Fatalf("Explain of %+v at %s: %v, %s, want %s", p, node, why, told(err), told(fault))
			}
			continue
		}
		against := standing(t, c, made, node)
		want := api.Reason{}
		if len(against) > 0 {
			want = against[0]
		}
		if err != nil || why != want {
			t.Fatalf("Explain of %+v at %s: %v, %s, want %v", p, node, why, told(err), want)
		}
		if why.Verdict == api.Fits {
			fit = append(fit, node)
		}
		all = append(all, against)
	}
	if !slices.Equal(names, fit) {
		t.Fatalf("Feasible of %+v: %q, want %q", p, names, fit)
	}
	return all
}

// expectReasons holds a pod against what is written down here: the nodes that may take it, and the reasons at all nodes in the order of their names.
func expectReasons(t *testing.T, c *cluster.Cluster, p api.Pod, feasible string, reasons ...api.Reason) {
	t.Helper()
	agree(t, c, index.Build(c), p)
	names, err := filter.Feasible(c, index.Build(c), p)
	if err != nil || strings.Join(names, " ") != feasible {
		t.Errorf("Feasible of %+v: %q, %s, want %s", p, names, told(err), feasible)
	}
	for i, node := range c.Nodes() {
		if why, err := filter.Explain(c, p, node); err != nil || why != reasons[i] {
			t.Errorf("Explain of %+v at %s: %v, %s, want %v", p, node, why, told(err), reasons[i])
		}
	}
}

func because(verdict, part int, name string) api.Reason {
	return api.Reason{Verdict: verdict, Part: part, Name: name}
}
