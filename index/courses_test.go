package index_test

import (
	"fmt"
	"math/rand/v2"
	"slices"
	"strconv"
	"testing"

	"berth/api"
	"berth/cluster"
	"berth/index"
	"berth/labels"
)

// source makes arguments by chance: mostly right ones of a few names, slots and texts, now and then wrong ones.
type source struct{ *rand.Rand }

func (r source) oneOf(list ...string) string { return list[r.IntN(len(list))] }

func (r source) labels() []api.Label {
	var list []api.Label
	for _, key := range []string{"app", "disk", "rank", "zone"} {
		if r.IntN(5) < 2 {
			list = append(list, api.Label{Key: key, Value: r.oneOf("", "-5", "3", "web", "x", "y")})
		}
	}
	return list
}

func (r source) taints() []api.Taint {
	var list []api.Taint
	for _, key := range []string{"disk", "gpu", "zone"} {
		for _, effect := range []string{api.NoExecute, api.NoSchedule, api.PreferNoSchedule} {
			if r.IntN(6) == 0 {
				list = append(list, api.Taint{Key: key, Value: r.oneOf("", "x"), Effect: effect})
			}
		}
	}
	return list
}

func (r source) items() []api.Item {
	var list []api.Item
	for _, name := range []string{"cpu", "example/gpu", "mem"} {
		if r.IntN(3) > 0 {
			list = append(list, api.Item{Name: name, N: 1 + r.IntN(8)})
		}
	}
	return list
}

// node is a node of one of a few names, whose lists are made; now and then there's something wrong with it.
func (r source) node() api.Node {
	n := api.Node{Name: r.oneOf("a", "b", "c", "n1", "n2", "p"), Labels: r.labels(), Taints: r.taints(), Cap: r.items(), Cordoned: r.IntN(3) == 0}
	switch r.IntN(30) {
	case 0:
		n.Name = r.oneOf("", "A", "_")
	case 1:
		slices.Reverse(n.Labels)
	case 2:
		slices.Reverse(n.Taints)
	case 3:
		n.Cap = append(n.Cap, api.Item{Name: r.oneOf("zz", "", "cpu"), N: r.IntN(2) - 1})
	case 4:
		n.Labels = append(n.Labels, api.Label{Key: r.oneOf("zz", "", "app"), Value: "-"})
	}
	return n
}

func (r source) pod() api.Pod {
	p := api.Pod{Name: r.oneOf("a", "p", "p1", "p2", "p3", "q", "r", "s"), Labels: r.labels(), Needs: items("?", -1)}
	switch r.IntN(30) {
	case 0:
		p.Name = r.oneOf("", "A", "_")
	case 1:
		slices.Reverse(p.Labels)
	}
	return p
}

func (r source) slot() int {
	if r.IntN(25) == 0 {
		return oddInts[r.IntN(len(oddInts))]
	}
	return []int{0, 1, 2, 63, 64, last}[r.IntN(6)]
}

func (r source) podSlot() int {
	if r.IntN(25) == 0 {
		return oddInts[r.IntN(len(oddInts))]
	}
	return []int{0, 1, 2, 63, 64, 511, 512, lastPod}[r.IntN(8)]
}

// step is one change by chance; gone is how much of ten goes, of what comes and goes.
func (r source) step(b both, gone int) api.Errno {
	b.t.Helper()
	ch := api.Change{Slot: r.slot(), PodSlot: r.podSlot(), Was: r.node(), Now: r.node(), Pod: r.pod()}
	goes := r.IntN(10) < gone
	switch at := r.IntN(20); {
	case at == 0:
		ch.Kind = api.ChangeKind(r.IntN(9) - 1)
	case at < 6:
		ch.Kind = api.ChangeNodeSet
		if n, there := b.m.nodes[ch.Slot]; there && r.IntN(8) > 0 {
			ch.Now.Name = n.Name
		}
	case at < 11 && goes:
		ch.Kind = api.ChangeNodeDel
	case at < 11:
		ch.Kind = api.ChangeNodeAdd
	case goes:
		ch.Kind = api.ChangePodDel
		if p, there := b.m.pods[ch.PodSlot]; there && r.IntN(4) > 0 {
			ch.Slot = p.node
		}
	default:
		ch.Kind = api.ChangePodAdd
	}
	return b.apply(ch)
}

// P10.2, P10.3, P10.5 to P10.10: long courses of changes by chance, right and wrong, in which it fills and empties.
func TestCourses(t *testing.T) {
	for seed := range uint64(6) {
		r := source{rand.New(rand.NewPCG(seed, 10))}
		b, before := made(t), made(t)
		met := map[api.Errno]int{}
		for i := range 400 {
			met[r.step(b, []int{1, 4, 2, 8}[i/100])]++
			when := fmt.Sprint("seed ", seed, ", step ", i)
			if i%20 == 0 {
				b.check(when)
			}
			same(t, when, b.x, before.x, sameModels(b.m, before.m))
			if r.IntN(50) == 0 {
				before = rebuilt(r, b)
			}
		}
		if met[api.OK] < 50 || met[api.ErrChange] < 50 {
			t.Errorf("seed %d: %v", seed, met)
		}
		same(t, "built anew", b.x, rebuilt(r, b).x, true)
	}
}

// rebuilt is an index with the same rows, that came to them in another order and by other rows.
func rebuilt(r source, b both) both {
	b.t.Helper()
	other := made(b.t)
	for slot, n := range b.m.nodes {
		other.does(nodeAdd(slot, api.Node{Name: n.Name, Labels: r.labels(), Taints: r.taints(), Cap: r.items(), Cordoned: r.IntN(2) == 0}))
	}
	for slot, p := range b.m.pods {
		if r.IntN(2) == 0 {
			other.does(podAdd(slot, p.node, p.name, r.labels()...))
			other.does(podDel(slot, p.node))
		}
		other.does(podAdd(slot, p.node, p.name, p.labels...))
	}
	for slot, n := range b.m.nodes {
		other.does(nodeSet(slot, n))
	}
	other.check("built anew")
	return other
}

// P10.2, P10.3: every course of four changes over two slots and two names of nodes and of pods, behind it what the model is.
func TestEveryShortCourse(t *testing.T) {
	one := api.Node{Name: "a", Labels: tags("rank", "3", "zone", "x"), Taints: marks("gpu", "x", api.NoSchedule), Cap: items("cpu", 4)}
	two := api.Node{Name: "b", Labels: tags("app", "web", "zone", "x"), Taints: marks("gpu", "x", api.NoSchedule), Cap: items("cpu", 8)}
	bare, other := named("a"), two
	other.Name, other.Cordoned = "a", true
	all := []api.Change{
		nodeAdd(0, bare), nodeAdd(1, one), nodeAdd(1, two), nodeSet(0, other), nodeSet(1, two), nodeDel(0), nodeDel(1),
		podAdd(0, 0, "p", tags("app", "web")...), podAdd(1, 1, "p", tags("rank", "3")...), podAdd(1, 0, "q", tags("app", "web")...), podDel(0, 0), podDel(1, 0),
	}
	courses := 1
	for range 4 {
		courses *= len(all)
	}
	for course := range courses {
		b := made(t)
		b.does(nodeAdd(0, one))
		for rest, i := course, 0; i < 4; rest, i = rest/len(all), i+1 {
			b.apply(all[rest%len(all)])
		}
		glance(b, "course "+strconv.Itoa(course))
	}
}

// glance is a check of what the short courses may change, and no more.
func glance(b both, when string) {
	b.t.Helper()
	l := look{b.t, when, b.x, b.m}
	for _, of := range sides[:2] {
		l.is(of, b.x.Live(of), b.m.live(of), "Live", of)
		l.is(of, b.x.Has(of, []string{"app"}), b.m.has(of, []string{"app"}), "Has", of)
		l.is(of, b.x.Label(of, "zone", []string{"x"}), b.m.label(of, "zone", []string{"x"}), "Label", of)
		l.is(of, b.x.Name(of, []string{"a", "p"}), b.m.name(of, "a", "p"), "Name", of)
		l.is(of, b.x.Number(of, "rank", api.CmpGe, 3), b.m.number(of, "rank", so(api.CmpGe, 3)), "Number", of)
	}
	l.is(api.OfNode, b.x.Cap("cpu", api.CmpLt, 8), b.m.cap("cpu", so(api.CmpLt, 8)), "Cap")
	l.is(api.OfNode, b.x.Tainted([]string{"gpu"}), b.m.tainted([]string{"gpu"}), "Tainted")
	l.is(api.OfNode, b.x.Tolerated(nil, api.NoSchedule), b.m.tolerated(nil, api.NoSchedule), "Tolerated")
	l.is(api.OfNode, b.x.Open(), b.m.open(), "Open")
	pods := b.x.Live(api.OfIt)
	l.is(api.OfNode, b.x.Count("zone", pods, api.CmpEq, 1), b.m.count("zone", pods, so(api.CmpEq, 1)), "Count")
	for slot := range 2 {
		n, has := b.m.with("zone", slot, api.Label{Key: "app", Value: "web"})
		if got, ok := b.x.With("zone", slot, "app", "web"); got != n || ok != has {
			b.t.Fatalf("%s: With at %d: %d, %v, want %d, %v", when, slot, got, ok, n, has)
		}
	}
}

// call is one call to a cluster by chance, mostly one that is accepted.
func (r source) call(c *cluster.Cluster, gone int) (api.Change, error) {
	name, pod := "n"+strconv.Itoa(r.IntN(9)), "p"+strconv.Itoa(r.IntN(25))
	key, effect := r.oneOf("zone", "app", "disk", "gpu", "rank", "_"), r.oneOf(effects[:4]...)
	goes := r.IntN(10) < gone
	list := r.labels()
	r.Shuffle(len(list), func(i, j int) { list[i], list[j] = list[j], list[i] })
	switch r.IntN(14) {
	case 0, 1:
		if goes {
			return c.Remove(name)
		}
		return c.Add(api.Node{Name: name, Labels: list, Taints: r.taints(), Cap: r.items(), Cordoned: r.IntN(3) == 0})
	case 2, 3:
		return c.Label(name, key, r.oneOf("", "x", "y", "-5", "3"))
	case 4:
		return c.Unlabel(name, key)
	case 5:
		return c.Taint(name, api.Taint{Key: key, Value: r.oneOf("", "x"), Effect: effect})
	case 6:
		return c.Untaint(name, key, effect)
	case 7:
		return c.Cordon(name, r.IntN(2) == 0)
	case 8:
		return c.Resize(name, append(r.items(), api.Item{Name: "zero", N: r.IntN(2)}))
	}
	if goes {
		return c.Unbind(pod)
	}
	return c.Bind(api.Pod{Name: pod, Labels: list, Needs: items("cpu", r.IntN(2)), Require: "true"}, name)
}

// P10.4, P7 of the whole: behind each accepted call of long courses, an index that was told all changes takes the next one, and is the same as one built anew.
func TestFollowsCluster(t *testing.T) {
	for seed := range uint64(4) {
		r := source{rand.New(rand.NewPCG(seed, 104))}
		c, x := cluster.New(), index.New()
		gone, kinds := 5, map[api.ChangeKind]int{}
		for i := range 2000 {
			if i%100 == 0 {
				gone = 1 + r.IntN(8)
			}
			ch, err := r.call(c, gone)
			if err != nil {
				continue
			}
			kinds[ch.Kind]++
			when := fmt.Sprint("seed ", seed, ", step ", i)
			if got := x.Apply(ch); got != api.OK {
				t.Fatalf("%s: %d of %+v", when, got, ch)
			}
			same(t, when, x, index.Build(c), true)
			if i%100 == 0 {
				check(t, when, x, modelOf(c))
				check(t, when+", built", index.Build(c), modelOf(c))
			}
		}
		for kind := api.ChangeNodeAdd; kind <= api.ChangePodDel; kind++ {
			if kinds[kind] < 15 {
				t.Errorf("seed %d: only %d changes of the kind %d", seed, kinds[kind], kind)
			}
		}
	}
}

// P10.4: a change that isn't told makes it unlike the cluster's own, and the next ones may not fit.
func TestMissedChange(t *testing.T) {
	c, x, ok := cluster.New(), index.New(), accepted(t)
	answers(t, "a node", x.Apply(ok(c.Add(named("a")))), api.OK)
	ok(c.Add(named("b")))
	same(t, "one node isn't told", x, index.Build(c), false)
	answers(t, "its label", x.Apply(ok(c.Label("b", "zone", "x"))), api.ErrChange)
	answers(t, "its pod", x.Apply(ok(c.Bind(api.Pod{Name: "p"}, "b"))), api.ErrChange)
	answers(t, "its pod goes", x.Apply(ok(c.Unbind("p"))), api.ErrChange)
	answers(t, "it goes", x.Apply(ok(c.Remove("b"))), api.ErrChange)
	same(t, "the node has gone", x, index.Build(c), true)
}

// P10.4: a cluster that is filled with nodes and pods, set about and emptied again.
func TestFollowsFullCluster(t *testing.T) {
	c, x, ok := cluster.New(), index.New(), accepted(t)
	tell := func(ch api.Change) {
		t.Helper()
		if got := x.Apply(ch); got != api.OK {
			t.Fatalf("%d of %+v", got, ch)
		}
	}
	name, pod := func(i int) string { return "n" + strconv.Itoa(i) }, func(i int) string { return "p" + strconv.Itoa(i) }
	for i := range api.MaxNodes {
		tell(ok(c.Add(api.Node{Name: name(i), Labels: tags("zone", strconv.Itoa(i%5)), Cap: items("cpu", 1+i%7)})))
	}
	for i := range api.MaxPods {
		tell(ok(c.Bind(api.Pod{Name: pod(i), Labels: tags("app", strconv.Itoa(i%3), "rank", strconv.Itoa(i))}, name(i*7%api.MaxNodes))))
	}
	same(t, "full", x, index.Build(c), true)
	for i := range api.MaxNodes {
		tell(ok(c.Label(name(i), "zone", strconv.Itoa(i%4))))
		tell(ok(c.Taint(name(i), api.Taint{Key: "gpu", Value: strconv.Itoa(i), Effect: effects[i%3]})))
		tell(ok(c.Cordon(name(i), i%2 == 0)))
	}
	same(t, "set", x, index.Build(c), true)
	m := modelOf(c)
	l, pods := look{t, "full", x, m}, x.Number(api.OfIt, "rank", api.CmpLt, 100)
	l.taints()
	l.is(api.OfIt, pods, m.number(api.OfIt, "rank", so(api.CmpLt, 100)), "Number")
	l.is(api.OfNode, x.Cap("cpu", api.CmpGe, 5), m.cap("cpu", so(api.CmpGe, 5)), "Cap")
	fits := func(slot int, n api.Node) bool {
		zone, _ := labels.Get(n.Labels, "zone")
		return zone == "1"
	}
	l.is(api.OfNode, x.Label(api.OfNode, "zone", []string{"1"}), m.nodesWhere(fits), "Label")
	for i := range api.MaxPods {
		tell(ok(c.Unbind(pod(i))))
	}
	for i := range api.MaxNodes {
		tell(ok(c.Remove(name(i))))
	}
	same(t, "emptied", x, nil, true)
	check(t, "emptied", x, newModel())
}
