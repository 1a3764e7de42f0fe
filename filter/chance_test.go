package filter_test

import (
	"fmt"
	"math/rand/v2"
	"slices"
	"strings"
	"testing"

	"berth/api"
	"berth/cluster"
	"berth/index"
)

// chance makes sources, pods and clusters of a seed.
type chance struct{ *rand.Rand }

func newChance(seed uint64) chance { return chance{rand.New(rand.NewPCG(seed, 23))} }

func one[T any](r chance, list ...T) T { return list[r.IntN(len(list))] }

// some are a few of a list, in any order; now and then none.
func some[T any](r chance, list []T) []T {
	var out []T
	for _, i := range r.Perm(len(list))[:r.IntN(min(len(list), 4)+1)] {
		out = append(out, list[i])
	}
	return out
}

// Few words, so that what is asked for is often there.
var (
	someKeys   = []string{"zone", "rack", "app", "n", "k/A"}
	someValues = []string{"x", "y", "", "1", "2", "3", "02", "-1", "web"}
	someNames  = []string{"a0", "b0", "c0", "d0", "p0", "p1"}
	effects    = []string{api.NoSchedule, api.NoExecute, api.PreferNoSchedule}
	compares   = []string{"==", "!=", "<", "<=", ">", ">="}
)

func quoted(s string) string { return fmt.Sprintf("%q", s) }

// set is a set of a few elements.
func (r chance) set(elements ...string) string {
	return "{" + strings.Join(some(r, elements), ", ") + "}"
}

func (r chance) text(who string) string {
	return one(r, who+".name", who+"["+quoted(one(r, someKeys...))+"]", who+"["+quoted(one(r, someKeys...))+"]")
}

func (r chance) number(who string) string {
	return "int(" + who + "[" + quoted(one(r, "n", "n", one(r, someKeys...))) + "])"
}

// fixed is a text that hangs on nothing, or on the pod to be placed.
func (r chance) fixed() string {
	return one(r, quoted(one(r, someValues...)), quoted(one(r, someNames...)), r.text("pod"))
}

func (r chance) fixedNumber() string {
	return one(r, fmt.Sprint(r.IntN(5)-1), fmt.Sprint(r.IntN(4)), r.number("pod"), "int("+quoted(one(r, someValues...))+")")
}

// ofNode is an atom that only a constraint may have.
func (r chance) ofNode(deep int) string {
	selector := r.condition(api.OfIt, deep-1)
	topo := quoted(one(r, someKeys...))
	amount := one(r, "node.cap("+quoted(one(r, "cpu", "mem"))+")", "count("+topo+", "+selector+")")
	switch r.IntN(5) {
	case 0:
		return "tolerated(" + quoted(one(r, effects...)) + ")"
	case 1:
		return one(r, quoted("t"), quoted("zone"), r.fixed()) + one(r, " in ", " notin ") + "node.taints"
	case 2:
		return amount + one(r, compares...) + r.fixedNumber()
	case 3:
		return amount + one(r, " in ", " notin ") + r.set("0", "1", "2", "3")
	}
	return one(r, "near", "apart") + "(" + topo + ", " + selector + ")"
}

func (r chance) atom(scope api.Side, deep int) string {
	who := map[api.Side]string{api.OfNode: "node", api.OfIt: "it"}[scope]
	if scope == api.OfNode && r.IntN(2) == 0 {
		return r.ofNode(deep)
	}
	text := one(r, r.text(who), r.text(who), r.fixed())
	switch r.IntN(7) {
	case 0:
		return one(r, "true", "false")
	case 1:
		return text + one(r, " == ", "!=") + r.fixed()
	case 2:
		return text + one(r, " in ", " notin ") + r.set(quoted("x"), quoted("y"), quoted("1"), quoted("web"), quoted("a0"), quoted("p0"))
	case 3:
		return text + one(r, " in ", " notin ") + "pod.keys"
	case 4:
		return r.fixed() + one(r, " in ", " notin ") + who + ".keys"
	case 5:
		return one(r, r.number(who), r.fixedNumber()) + one(r, " in ", " notin ") + r.set("-1", "1", "2", "3")
	}
	return r.number(who) + " " + one(r, compares...) + " " + r.fixedNumber()
}

// condition is a source that reads, and whose sorts are right, in a scope.
func (r chance) condition(scope api.Side, deep int) string {
	if deep <= 0 || r.IntN(3) == 0 {
		return r.atom(scope, deep)
	}
	switch r.IntN(5) {
	case 0:
		return "!" + one(r, "", " ") + "(" + r.condition(scope, deep-1) + ")"
	case 1:
		return "(" + r.condition(scope, deep-1) + ")" + one(r, "", " # why\n")
	}
	var kids []string
	for range 2 + r.IntN(2) {
		kids = append(kids, r.condition(scope, deep-1))
	}
	return strings.Join(kids, one(r, " && ", " || "))
}

// spoil changes a source at one place: it may read no more, or make no sense.
func (r chance) spoil(source string) string {
	at, to := r.IntN(len(source)+1), r.IntN(len(source)+1)
	pieces := []string{"node", "pod", "it", `"`, "true", "&&", "||", "!", "(", ")", "==", "<", "in", "{", "}", `"x"`, "3", "int(", "near(", `count("zone", true)`, ".keys", "\x00", " ", ",", "#", `\`}
	switch r.IntN(6) {
	case 0:
		return source[:at]
	case 1:
		return source[:min(at, to)] + source[max(at, to):]
	case 2:
		return source[:at] + string([]byte{byte(r.Uint32())}) + source[at:]
	case 3:
		return strings.Replace(source, one(r, "node", "it", "pod"), one(r, "node", "it", "pod"), 1+r.IntN(2))
	case 4:
		return strings.Replace(source, one(r, "==", "<", " in ", "int(", `"zone"`, "true", "&&"), one(r, "==", "<", " in ", "int(", `"a b"`, "1", "&&", "|", " in near("), 1)
	}
	return source[:at] + one(r, pieces...) + source[at:]
}

// source is one that reads, or one that is spoilt.
func (r chance) source(scope api.Side) string {
	source := r.condition(scope, r.IntN(4))
	for r.IntN(2) == 0 {
		source = r.spoil(source)
	}
	return source
}

// labels are such as a cluster takes, in no order.
func (r chance) labels() []api.Label {
	var out []api.Label
	for _, i := range r.Perm(len(someKeys))[:r.IntN(len(someKeys)+1)] {
		out = append(out, api.Label{Key: someKeys[i], Value: one(r, someValues...)})
	}
	return out
}

func (r chance) tolerations() []api.Toleration {
	return some(r, []api.Toleration{
		{Op: api.Exists, Effect: api.NoExecute}, {Key: "t", Op: api.Exists}, {Key: "t", Op: api.Equal, Value: "x"}, {Op: api.Exists},
		{Key: "zone", Op: api.Equal, Effect: api.NoSchedule}, {Key: "t", Op: api.Equal, Value: "y", Effect: api.PreferNoSchedule},
	})
}

func (r chance) taints() []api.Taint {
	all := []api.Taint{{Key: "t", Value: one(r, "x", "y", ""), Effect: api.NoSchedule}, {Key: "t", Effect: api.NoExecute}, {Key: "zone", Value: "x", Effect: api.PreferNoSchedule}, {Key: "zone", Effect: api.NoSchedule}}
	return slices.DeleteFunc(all, func(api.Taint) bool { return r.IntN(5) > 0 })
}

func (r chance) items(most int) []api.Item {
	return some(r, []api.Item{{Name: "mem", N: r.IntN(most)}, {Name: "cpu", N: r.IntN(most)}})
}

// pod is one that Check takes, its lists in no order.
func (r chance) pod(name string) api.Pod {
	p := api.Pod{Name: name, Labels: r.labels(), Needs: r.items(3), Tolerations: r.tolerations(), Priority: r.IntN(2000001) - 1000000}
	if r.IntN(2) == 0 {
		p.Require = r.condition(api.OfNode, r.IntN(3))
	}
	for range r.IntN(3) {
		p.Apart = append(p.Apart, api.Apart{Topo: one(r, someKeys...), Select: r.condition(api.OfIt, r.IntN(3))})
		p.Prefer = append(p.Prefer, api.Prefer{Weight: 1 + r.IntN(100), Text: r.condition(api.OfNode, r.IntN(3))})
	}
	return p
}

// lodger is a pod as layer 6 takes it: its texts may be any.
func (r chance) lodger(name string) api.Pod {
	p := r.pod(name)
	p.Needs = r.items(2)
	p.Require = one(r, p.Require, "&", "it.name")
	for range r.IntN(3) {
		term := api.Apart{Topo: one(r, append(someKeys, "", "a b", "zone ")...), Select: r.source(api.OfIt)}
		p.Apart = slices.Insert(p.Apart, r.IntN(len(p.Apart)+1), term)
	}
	return p
}

// rawPod is a pod as it may be handed in: its lists raw, its texts of any kind.
func (r chance) rawPod() api.Pod {
	p := r.pod(one(r, someNames...))
	for range r.IntN(4) {
		switch r.IntN(9) {
		case 0:
			p.Name = one(r, "", "No!", "p0 ", "p-")
		case 1:
			p.Labels = append(p.Labels, api.Label{Key: one(r, append(someKeys, "", "a b")...), Value: one(r, append(someValues, "\xff", "- -")...)})
		case 2:
			p.Needs = append(p.Needs, api.Item{Name: one(r, "cpu", "gpu", "", "A"), N: r.IntN(4) - 1})
		case 3:
			p.Tolerations = append(p.Tolerations, api.Toleration{Key: "t", Op: one(r, "", "exists", "Equal"), Value: one(r, "", "x"), Effect: one(r, "", "Never")})
		case 4:
			p.Require = r.source(api.OfNode)
		case 5:
			p.Apart = append(p.Apart, api.Apart{Topo: one(r, append(someKeys, "", "a b")...), Select: r.source(api.OfIt)})
		case 6:
			p.Prefer = append(p.Prefer, api.Prefer{Weight: one(r, -1, 0, 1, 100, 101, 50), Text: r.source(api.OfNode)})
		case 7:
			p.Priority = one(r, -1000001, -1000000, 1000000, 1000001, int(r.Uint64()))
		default:
			p.Apart, p.Prefer = slices.Repeat(p.Apart, 1+r.IntN(6)), slices.Repeat(p.Prefer, 1+r.IntN(6))
		}
	}
	return p
}

// course is a cluster and an index that is told of each of its changes.
type course struct {
	chance
	c *cluster.Cluster
	x *index.Index
}

func (c course) hear(t *testing.T, change api.Change, err error) {
	t.Helper()
	if err != nil {
		return // refused
	}
	if e := c.x.Apply(change); e != api.OK {
		t.Fatalf("%+v: %d", change, e)
	}
}

// node and guest are names of nodes and of bound pods that may be there.
func (c course) node() string { return fmt.Sprintf("%c0", 'a'+rune(c.IntN(8))) }

func (c course) guest() string { return fmt.Sprint("p", c.IntN(12)) }

// step is one call that may change the cluster.
func (c course) step(t *testing.T) {
	t.Helper()
	var change api.Change
	var err error
	switch c.IntN(12) {
	case 0, 1, 2:
		change, err = c.c.Add(api.Node{Name: c.node(), Labels: c.labels(), Taints: c.taints(), Cap: c.items(6), Cordoned: c.IntN(6) == 0})
	case 3, 4, 5, 6:
		change, err = c.c.Bind(c.lodger(c.guest()), c.node())
	case 7:
		change, err = c.c.Remove(c.node())
	case 8:
		change, err = c.c.Unbind(c.guest())
	case 9:
		change, err = c.c.Label(c.node(), one(c.chance, someKeys...), one(c.chance, someValues...))
	case 10:
		change, err = c.c.Cordon(c.node(), c.IntN(4) == 0)
	default:
		change, err = c.c.Resize(c.node(), c.items(6))
	}
	c.hear(t, change, err)
}

// drain takes a node out with its pods.
func (c course) drain(t *testing.T, name string) {
	t.Helper()
	for _, pod := range c.c.On(name) {
		change, err := c.c.Unbind(pod)
		c.hear(t, change, err)
	}
	change, err := c.c.Remove(name)
	c.hear(t, change, err)
}

// course has gone so many steps.
func (r chance) course(t *testing.T, steps int) course {
	t.Helper()
	c := course{r, cluster.New(), index.New()}
	for range steps {
		c.step(t)
		if r.IntN(15) == 0 {
			c.drain(t, c.node())
		}
	}
	return c
}

// again is a cluster with the same nodes and the same pods on them, which came in another order, and between others that have gone.
func (r chance) again(t *testing.T, c *cluster.Cluster) *cluster.Cluster {
	t.Helper()
	out, nodes, pods := cluster.New(), c.Nodes(), c.Pods()
	r.Shuffle(len(nodes), func(i, j int) { nodes[i], nodes[j] = nodes[j], nodes[i] })
	r.Shuffle(len(pods), func(i, j int) { pods[i], pods[j] = pods[j], pods[i] })
	must := func(_ api.Change, err error) {
		t.Helper()
		if err != nil {
			t.Fatal(err)
		}
	}
	gone := func(i int) string { return fmt.Sprint("gone", i) }
	for i, name := range nodes {
		must(out.Add(api.Node{Name: gone(i)}))
		if i%3 == 2 {
			must(out.Remove(gone(i - 1)))
		}
		node, _ := c.Node(name)
		must(out.Add(node))
	}
	for i, name := range pods {
		must(out.Bind(api.Pod{Name: gone(i)}, gone(0)))
		if i%3 == 2 {
			must(out.Unbind(gone(i - 1)))
		}
		pod, on, _ := c.Pod(name)
		must(out.Bind(pod, on))
	}
	for _, name := range out.Pods() {
		if strings.HasPrefix(name, "gone") {
			must(out.Unbind(name))
		}
	}
	for _, name := range out.Nodes() {
		if strings.HasPrefix(name, "gone") {
			must(out.Remove(name))
		}
	}
	return out
}
