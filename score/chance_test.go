package score_test

import (
	"fmt"
	"math/rand/v2"
	"slices"
	"strings"
	"testing"

	"berth/api"
	"berth/cluster"
	"berth/index"
)

// chance makes pods, lists of names and clusters of a seed.
type chance struct{ *rand.Rand }

func newChance(seed uint64) chance { return chance{rand.New(rand.NewPCG(seed, 24))} }

func one[T any](r chance, list ...T) T { return list[r.IntN(len(list))] }

// some are a few of a list, in any order; now and then none.
func some[T any](r chance, list ...T) []T {
	var out []T
	for _, i := range r.Perm(len(list))[:r.IntN(len(list)+1)] {
		out = append(out, list[i])
	}
	return out
}

// constraint is a source that reads: few words, so that what is asked for is often there.
func (r chance) constraint() string {
	atom := one(r,
		"true", "false", `node["zone"] == "x"`, `node["zone"] in {"x", ""}`, `node["rack"] == pod["rack"]`, `node.name != "a0"`, `int(node["rack"]) < 2`,
		`near("zone", it["app"] == pod["app"])`, `apart("rack", it.name == pod.name)`, `count("zone", true) > 1`, `node.cap("cpu") >= 3`, `tolerated("NoSchedule")`,
		`"t" in node.taints`, `"zone" notin node.keys`, `count("rack", it["app"] == "web") != 2`)
	switch r.IntN(5) {
	case 0:
		return "!(" + atom + ")"
	case 1:
		return atom + one(r, " && ", " || ") + r.constraint()
	}
	return atom
}

// labels are such as a cluster takes, in no order.
func (r chance) labels() []api.Label {
	return some(r, api.Label{Key: "zone", Value: one(r, "x", "y", "")}, api.Label{Key: "app", Value: one(r, "web", "db", "")}, api.Label{Key: "rack", Value: one(r, "1", "2", "x")})
}

func (r chance) tolerations() []api.Toleration {
	return some(r, api.Toleration{Key: "t", Op: api.Exists}, api.Toleration{Key: "u", Op: api.Equal, Value: "v"}, api.Toleration{Key: "w", Op: api.Exists, Effect: api.PreferNoSchedule})
}

func (r chance) taints() []api.Taint {
	effects := []string{api.NoSchedule, api.PreferNoSchedule, api.PreferNoSchedule, api.PreferNoSchedule, api.NoExecute}
	var out []api.Taint
	for _, key := range some(r, "t", "u", "w", "k/a", "b") {
		out = append(out, api.Taint{Key: key, Value: one(r, "", "v"), Effect: one(r, effects...)})
	}
	if r.IntN(8) == 0 {
		out = append(out, soft(r.IntN(10))...)
	}
	return out
}

func (r chance) items(most int) []api.Item {
	great := one(r, 0, 0, 0, 1<<62)
	return some(r, api.Item{Name: "mem", N: great + r.IntN(most)}, api.Item{Name: "cpu", N: r.IntN(most)}, api.Item{Name: "gpu", N: r.IntN(most)})
}

// pod is one that layer 23 takes, its lists in no order.
func (r chance) pod(name string) api.Pod {
	p := api.Pod{Name: name, Labels: r.labels(), Needs: r.items(4), Tolerations: r.tolerations(), Priority: r.IntN(10)}
	for range one(r, 0, 0, 1, 2, 8) {
		p.Prefer = append(p.Prefer, wish(1+r.IntN(100), r.constraint()))
	}
	if r.IntN(4) == 0 {
		p.Require, p.Apart = r.constraint(), []api.Apart{{Topo: "zone", Select: `it["app"] == "web"`}}
	}
	return p
}

// rawPod is a pod as it may be handed in.
func (r chance) rawPod() api.Pod {
	p := r.pod(one(r, "p0", "new", "a0"))
	switch r.IntN(9) {
	case 0:
		p.Name = one(r, "", "No!", "p0 ", "\xff")
	case 1:
		p.Labels = append(p.Labels, one(r, tags("app", "web", "", "", "zone", "\xff")...))
	case 2:
		p.Needs = append(p.Needs, api.Item{Name: one(r, "cpu", "A"), N: r.IntN(4) - 1})
	case 3:
		p.Tolerations = append(p.Tolerations, api.Toleration{Op: one(r, "", "Never")})
	case 4:
		p.Require = one(r, "&", "pod.name", "it.name == pod.name")
	case 5:
		p.Apart = append(p.Apart, api.Apart{Topo: one(r, "zone", ""), Select: one(r, "", "true", "near")})
	case 6:
		p.Prefer = append(p.Prefer, wish(one(r, -1, 0, 101, 7), one(r, "", "true", "1", "\x00")))
	case 7:
		p.Priority = int(r.Uint64())
	}
	return p
}

// names are some of those of a cluster's nodes, some of them twice; now and then others too.
func (r chance) names(c *cluster.Cluster) []string {
	out := some(r, c.Nodes()...)
	for range r.IntN(3) {
		if len(out) > 0 {
			out = slices.Insert(out, r.IntN(len(out)+1), one(r, out...))
		}
	}
	for r.IntN(6) == 0 {
		out = slices.Insert(out, r.IntN(len(out)+1), one(r, "", "none", "a0 ", "A0", "\xff", "p0", strings.Repeat("n", 500)))
	}
	return out
}

// course is a cluster and an index that is told of each of its changes.
type course struct {
	chance
	c *cluster.Cluster
	x *index.Index
}

func (c course) hear(t *testing.T, change api.Change, err error) {
	t.Helper()
	if err != nil {
		return // refused
	}
	if e := c.x.Apply(change); e != api.OK {
		t.Fatalf("%+v: %d", change, e)
	}
}

// node and guest are names of nodes and of bound pods that may be there.
func (c course) node() string { return fmt.Sprintf("%c0", 'a'+rune(c.IntN(8))) }

func (c course) guest() string { return fmt.Sprint("p", c.IntN(15)) }

// step is one call that may change the cluster.
func (c course) step(t *testing.T) {
	t.Helper()
	var change api.Change
	var err error
	switch name := c.node(); c.IntN(12) {
	case 0, 1, 2:
		change, err = c.c.Add(api.Node{Name: name, Labels: c.labels(), Taints: c.taints(), Cap: c.items(9), Cordoned: c.IntN(6) == 0})
	case 3, 4, 5, 6:
		p := c.pod(c.guest())
		p.Needs = c.items(2)
		change, err = c.c.Bind(p, name)
	case 7:
		change, err = c.c.Remove(name)
	case 8:
		change, err = c.c.Unbind(c.guest())
	case 9:
		change, err = c.c.Label(name, "zone", one(c.chance, "x", "y", ""))
	case 10:
		change, err = c.c.Taint(name, one(c.chance, soft(3)...))
	default:
		change, err = c.c.Resize(name, c.items(9))
	}
	c.hear(t, change, err)
}

// course has gone so many steps.
func (r chance) course(t *testing.T, steps int) course {
	t.Helper()
	c := course{r, cluster.New(), index.New()}
	for range steps {
		c.step(t)
	}
	return c
}
