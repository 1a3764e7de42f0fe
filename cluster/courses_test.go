package cluster_test

import (
	"math"
	"math/rand/v2"
	"slices"
	"strconv"
	"testing"

	"berth/api"
	"berth/cluster"
)

// source makes arguments by chance: mostly right ones of a few names, keys and resources, now and then wrong ones.
type source struct {
	*rand.Rand
	nodes, pods int // how many names there are
	great       bool
}

func (r source) oneOf(list ...string) string { return list[r.IntN(len(list))] }

func (r source) rarely() bool { return r.IntN(30) == 0 }

func (r source) nodeName() string {
	if r.rarely() {
		return oddTexts[r.IntN(len(oddTexts))]
	}
	return nth(r.IntN(r.nodes))
}

func (r source) podName() string {
	if r.rarely() {
		return oddTexts[r.IntN(len(oddTexts))]
	}
	return pth(r.IntN(r.pods))
}

func (r source) key() string {
	if r.rarely() {
		return r.oneOf("", "_", "a/b/c")
	}
	return r.oneOf("zone", "app", "disk", "example.org/gpu")
}

func (r source) value() string {
	if r.rarely() {
		return r.oneOf("_", "x ", "-")
	}
	return r.oneOf("", "x", "y", "-5")
}

func (r source) effect() string {
	if r.rarely() {
		return r.oneOf("", "Never")
	}
	return r.oneOf(api.NoSchedule, api.PreferNoSchedule, api.NoExecute)
}

func (r source) amount() int {
	if r.great {
		return r.IntN(5) * (math.MaxInt / 4)
	}
	return r.IntN(8)
}

func (r source) items(most int) []api.Item {
	var list []api.Item
	for _, i := range r.Perm(3) {
		if r.IntN(3) < most {
			list = append(list, api.Item{Name: [...]string{"cpu", "gpu", "mem"}[i], N: r.amount()})
		}
	}
	if r.rarely() {
		list = append(list, api.Item{Name: r.oneOf("cpu", "CPU", "mem"), N: r.IntN(3) - 1})
	}
	return list
}

func (r source) labels() []api.Label {
	var list []api.Label
	for range r.IntN(3) {
		list = append(list, api.Label{Key: r.key(), Value: r.value()})
	}
	return list
}

func (r source) taint() api.Taint { return mark(r.key(), r.value(), r.effect()) }

func (r source) node() api.Node {
	n := api.Node{Name: r.nodeName(), Labels: r.labels(), Cap: r.items(3), Cordoned: r.IntN(2) == 0}
	for range r.IntN(3) {
		n.Taints = append(n.Taints, r.taint())
	}
	return n
}

func (r source) pod() api.Pod {
	p := api.Pod{Name: r.podName(), Labels: r.labels(), Needs: r.items(1), Require: r.value(), Priority: r.IntN(9)}
	for range r.IntN(3) {
		p.Tolerations = append(p.Tolerations, api.Toleration{Key: "zone", Op: r.oneOf(api.Equal, api.Exists), Effect: r.effect()})
		p.Apart = append(p.Apart, api.Apart{Topo: r.key(), Select: r.value()})
		p.Prefer = append(p.Prefer, api.Prefer{Weight: r.IntN(9), Text: r.value()})
	}
	return p
}

// step is one call by chance. gone is how much of ten goes, of what comes and goes.
func (r source) step(b both, gone int) (api.Change, error) {
	b.t.Helper()
	goes := r.IntN(10) < gone
	switch r.IntN(12) {
	case 0, 1:
		if goes {
			return b.remove(r.nodeName())
		}
		return b.add(r.node())
	case 2:
		return b.label(r.nodeName(), r.key(), r.value())
	case 3:
		return b.unlabel(r.nodeName(), r.key())
	case 4:
		return b.taint(r.nodeName(), r.taint())
	case 5:
		return b.untaint(r.nodeName(), r.key(), r.effect())
	case 6:
		return b.cordon(r.nodeName(), goes)
	case 7:
		return b.resize(r.nodeName(), r.items(3))
	}
	if goes {
		return b.unbind(r.podName())
	}
	return b.bind(r.pod(), r.nodeName())
}

// P6.3 to P6.15: long courses of calls, right and wrong, over few names and many, small amounts and great ones.
func TestLongCourses(t *testing.T) {
	for seed := range uint64(8) {
		r := source{rand.New(rand.NewPCG(6, seed)), 3 + int(seed)*4, 6 + int(seed)*9, seed%2 == 1}
		b := made(t)
		gone, accepted := 5, map[api.ChangeKind]int{}
		for step := range 5000 {
			if step%250 == 0 {
				gone = 1 + r.IntN(8)
			}
			ch, err := r.step(b, gone)
			if err == nil {
				accepted[ch.Kind]++
			}
			if step%41 == 0 || err != nil && step%7 == 0 {
				b.check("seed " + strconv.Itoa(int(seed)) + ", step " + strconv.Itoa(step))
			}
		}
		for kind := api.ChangeNodeAdd; kind <= api.ChangePodDel; kind++ {
			if accepted[kind] < 20 {
				t.Errorf("seed %d: only %d changes of the kind %d", seed, accepted[kind], kind)
			}
		}
	}
}

// road makes a cluster of these nodes and pods by calls in an order by chance, beside others that come and go again.
func (r source) road(t *testing.T, nodes []api.Node, pods []api.Pod, at map[string]string) both {
	t.Helper()
	b := made(t)
	for i := range r.IntN(4) {
		b.add(node("passing" + strconv.Itoa(i)))
	}
	for _, i := range r.Perm(len(nodes)) {
		n := nodes[i]
		bare := n
		if r.IntN(2) == 0 {
			bare.Labels, bare.Taints, bare.Cap, bare.Cordoned = nil, nil, nil, !n.Cordoned
		}
		b.add(bare)
		for _, j := range r.Perm(len(n.Labels)) {
			b.label(n.Name, n.Labels[j].Key, n.Labels[j].Value)
		}
		for _, j := range r.Perm(len(n.Taints)) {
			b.taint(n.Name, n.Taints[j])
		}
		b.resize(n.Name, n.Cap)
		b.cordon(n.Name, n.Cordoned)
		if r.IntN(3) == 0 {
			b.bind(pod("passing"+strconv.Itoa(i)), n.Name)
		}
	}
	for _, i := range r.Perm(len(pods)) {
		if _, err := b.bind(pods[i], at[pods[i].Name]); err != nil {
			t.Fatalf("Bind of %s: %v", pods[i].Name, err)
		}
	}
	for i := range nodes {
		b.unbind("passing" + strconv.Itoa(i))
	}
	for i := range 4 {
		b.remove("passing" + strconv.Itoa(i))
	}
	return b
}

// byNames is all that a cluster tells but for slots.
func byNames(c *cluster.Cluster) []any {
	names := slices.Concat(c.Nodes(), c.Pods(), oddTexts)
	all := answers(c, names...)
	all[2] = nil // Live
	for _, name := range names {
		_, node, there := c.Pod(name)
		all = append(all, node, there)
	}
	return all
}

// P6.16: two roads to one cluster: all is told alike but for slots, and so it goes on.
func TestByNamesAlone(t *testing.T) {
	for seed := range uint64(30) {
		r := source{rand.New(rand.NewPCG(16, seed)), 9, 20, false}
		first := made(t)
		for range 400 {
			r.step(first, 2)
		}
		var nodes []api.Node
		for _, name := range first.c.Nodes() {
			n, _ := first.c.Node(name)
			nodes = append(nodes, n)
		}
		var pods []api.Pod
		at := map[string]string{}
		for _, name := range first.c.Pods() {
			p, node, _ := first.c.Pod(name)
			pods, at[name] = append(pods, p), node
		}
		second := r.road(t, nodes, pods, at)
		goOnAlike(t, first, second, seed)
	}
}

func goOnAlike(t *testing.T, first, second both, seed uint64) {
	t.Helper()
	a, b := source{rand.New(rand.NewPCG(17, seed)), 9, 20, false}, source{rand.New(rand.NewPCG(17, seed)), 9, 20, false}
	for step := range 60 {
		if x, y := byNames(first.c), byNames(second.c); !sameAnswers(x, y) {
			t.Fatalf("seed %d, step %d: %+v, by another road %+v", seed, step, x, y)
		}
		x, bad := a.step(first, 5)
		y, worse := b.step(second, 5)
		x.Slot, x.PodSlot, y.Slot, y.PodSlot = 0, 0, 0, 0
		if bad == nil != (worse == nil) || bad != nil && !sameFault(worse, bad.(*api.Fault)) || !sameChange(x, y) {
			t.Fatalf("seed %d, step %d: %+v, %v, by another road %+v, %v", seed, step, x, bad, y, worse)
		}
	}
}
