package cluster_test

import (
	"strconv"
	"testing"

	"berth/api"
	"berth/cluster"
)

// both is a cluster and its model: each call goes to both, and what they answer is held against each other.
type both struct {
	t *testing.T
	c *cluster.Cluster
	m *model
}

func made(t *testing.T) both { return both{t, cluster.New(), newModel()} }

func (b both) check(when string) {
	b.t.Helper()
	check(b.t, when, b.c, b.m)
}

// hold holds what a call answered against what the model answered, and gives it back.
func (b both) hold(what string, ch api.Change, err error) func(want api.Change, bad *api.Fault) (api.Change, error) {
	b.t.Helper()
	return func(want api.Change, bad *api.Fault) (api.Change, error) {
		b.t.Helper()
		if !sameFault(err, bad) {
			b.t.Fatalf("%s: %v, want %v", what, err, bad)
		}
		if !sameChange(ch, want) {
			b.t.Fatalf("%s: %+v, want %+v", what, ch, want)
		}
		return ch, err
	}
}

func (b both) add(n api.Node) (api.Change, error) {
	b.t.Helper()
	ch, err := b.c.Add(n)
	return b.hold("Add "+n.Name, ch, err)(b.m.add(n))
}

func (b both) remove(name string) (api.Change, error) {
	b.t.Helper()
	ch, err := b.c.Remove(name)
	return b.hold("Remove "+name, ch, err)(b.m.remove(name))
}

func (b both) label(name, key, value string) (api.Change, error) {
	b.t.Helper()
	ch, err := b.c.Label(name, key, value)
	return b.hold("Label "+name+" "+key+" "+value, ch, err)(b.m.label(name, key, value))
}

func (b both) unlabel(name, key string) (api.Change, error) {
	b.t.Helper()
	ch, err := b.c.Unlabel(name, key)
	return b.hold("Unlabel "+name+" "+key, ch, err)(b.m.unlabel(name, key))
}

func (b both) taint(name string, t api.Taint) (api.Change, error) {
	b.t.Helper()
	ch, err := b.c.Taint(name, t)
	return b.hold("Taint "+name+" "+t.Key, ch, err)(b.m.taint(name, t))
}

func (b both) untaint(name, key, effect string) (api.Change, error) {
	b.t.Helper()
	ch, err := b.c.Untaint(name, key, effect)
	return b.hold("Untaint "+name+" "+key+" "+effect, ch, err)(b.m.untaint(name, key, effect))
}

func (b both) cordon(name string, on bool) (api.Change, error) {
	b.t.Helper()
	ch, err := b.c.Cordon(name, on)
	return b.hold("Cordon "+name, ch, err)(b.m.cordon(name, on))
}

func (b both) resize(name string, items []api.Item) (api.Change, error) {
	b.t.Helper()
	ch, err := b.c.Resize(name, items)
	return b.hold("Resize "+name, ch, err)(b.m.resize(name, items))
}

func (b both) bind(p api.Pod, node string) (api.Change, error) {
	b.t.Helper()
	ch, err := b.c.Bind(p, node)
	return b.hold("Bind "+p.Name+" to "+node, ch, err)(b.m.bind(p, node))
}

func (b both) unbind(pod string) (api.Change, error) {
	b.t.Helper()
	ch, err := b.c.Unbind(pod)
	return b.hold("Unbind "+pod, ch, err)(b.m.unbind(pod))
}

func nth(i int) string { return "n" + strconv.Itoa(i) }

func pth(i int) string { return "p" + strconv.Itoa(i) }

// items is a list of amounts: a name and a number by turns.
func items(pieces ...any) []api.Item {
	var list []api.Item
	for i := 0; i < len(pieces); i += 2 {
		list = append(list, api.Item{Name: pieces[i].(string), N: pieces[i+1].(int)})
	}
	return list
}

func cpu(n int) []api.Item { return items("cpu", n) }

// tags is a list of labels: a key and a value by turns.
func tags(pieces ...string) []api.Label {
	var list []api.Label
	for i := 0; i < len(pieces); i += 2 {
		list = append(list, api.Label{Key: pieces[i], Value: pieces[i+1]})
	}
	return list
}

func mark(key, value, effect string) api.Taint {
	return api.Taint{Key: key, Value: value, Effect: effect}
}

func node(name string, capacity ...any) api.Node {
	return api.Node{Name: name, Cap: items(capacity...)}
}

func pod(name string, needs ...any) api.Pod { return api.Pod{Name: name, Needs: items(needs...)} }

// fullNode and fullPod have something in every field, their lists not in their order.
func fullNode(name string) api.Node {
	return api.Node{
		Name:     name,
		Labels:   tags("zone", "x", "app", "", "disk", "ssd"),
		Taints:   []api.Taint{mark("gpu", "", api.NoSchedule), mark("gpu", "a", api.NoExecute), mark("disk", "b", api.PreferNoSchedule)},
		Cap:      items("mem", 1000, "gpu", 0, "cpu", 40),
		Cordoned: true,
	}
}

func fullPod(name string) api.Pod {
	return api.Pod{
		Name:        name,
		Labels:      tags("tier", "web", "app", "shop"),
		Needs:       items("mem", 10, "gpu", 0, "cpu", 2),
		Tolerations: []api.Toleration{{Key: "zone", Op: api.Equal, Value: "x"}, {Op: api.Exists}, {Key: "a", Op: api.Exists}, {Op: api.Exists}},
		Require:     "no \"constraint",
		Apart:       []api.Apart{{Topo: "zone", Select: "("}, {}, {Topo: "_", Select: "true"}},
		Prefer:      []api.Prefer{{Weight: -5, Text: "z"}, {}, {Weight: 1 << 40, Text: "a"}},
		Priority:    -1 << 62,
	}
}
