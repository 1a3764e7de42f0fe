package domain_test

import (
	"fmt"
	"math/rand/v2"
	"slices"
	"strconv"
	"testing"

	"berth/api"
	"berth/cluster"
	"berth/domain"
)

// source makes arguments by chance: mostly right ones of a few slots, keys and values, now and then wrong ones.
type source struct{ *rand.Rand }

func (r source) oneOf(list ...string) string { return list[r.IntN(len(list))] }

// labels is a list in its order of some of the keys; now and then one key stands twice, out of its order or is none.
func (r source) labels() []api.Label {
	list := r.rightLabels()
	switch r.IntN(40) {
	case 0:
		list = append(list, api.Label{Key: r.oneOf("", "app", "zone", "-"), Value: "x"})
	case 1:
		list = append(list, api.Label{Key: "zz", Value: r.oneOf("-", "x ", "é")})
	case 2:
		slices.Reverse(list)
	}
	return list
}

func (r source) rightLabels() []api.Label {
	var list []api.Label
	for _, key := range []string{"a.example/x", "app", "disk", "zone"} {
		if r.IntN(5) < 2 {
			list = append(list, api.Label{Key: key, Value: r.oneOf("", "-5", "app", "x", "y")})
		}
	}
	return list
}

// slot is one of the few nodes' slots, now and then one that is none.
func (r source) slot(most int) int {
	if r.IntN(25) == 0 {
		return oddInts[r.IntN(len(oddInts))]
	}
	return []int{0, 1, 63, 64, 65, api.MaxNodes - 1}[r.IntN(most)]
}

func (r source) podSlot() int {
	if r.IntN(25) == 0 {
		return oddInts[r.IntN(len(oddInts))]
	}
	return []int{0, 1, 2, 3, 63, 64, 511, 512, 1000, api.MaxPods - 1}[r.IntN(10)]
}

// step is one change by chance; gone is how much of ten goes, of what comes and goes.
func (r source) step(b both, gone int) api.Errno {
	b.t.Helper()
	ch := api.Change{Slot: r.slot(6), PodSlot: r.podSlot()}
	ch.Now.Labels, ch.Was.Labels, ch.Pod.Labels = r.labels(), r.labels(), r.labels()
	goes := r.IntN(10) < gone
	switch at := r.IntN(20); {
	case at == 0:
		ch.Kind = api.ChangeKind(r.IntN(9) - 1)
	case at < 4:
		ch.Kind = api.ChangeNodeSet
	case at < 10 && goes:
		ch.Kind = api.ChangeNodeDel
	case at < 10:
		ch.Kind = api.ChangeNodeAdd
	case goes:
		ch.Kind = api.ChangePodDel
		if p, there := b.m.pods[ch.PodSlot]; there && r.IntN(4) > 0 {
			ch.Slot = p.node
		}
	default:
		ch.Kind = api.ChangePodAdd
	}
	return b.apply(ch)
}

// P9.2, P9.4 to P9.9: long courses of changes by chance, right and wrong, in which it fills and empties.
func TestCourses(t *testing.T) {
	for seed := range uint64(10) {
		r := source{rand.New(rand.NewPCG(seed, 9))}
		b, last := made(t), made(t)
		walk, then := b.d.Values("zone"), b.m.values("zone")
		met := map[api.Errno]int{}
		for i := range 400 {
			met[r.step(b, []int{1, 4, 2, 8}[i/100])]++
			if i%20 == 0 {
				b.check(fmt.Sprint("seed ", seed, ", step ", i))
			}
			gives(t, "an earlier walk", walk, then)
			if r.IntN(10) == 0 {
				walk, then = b.d.Values("zone"), b.m.values("zone")
			}
			same(t, fmt.Sprint("seed ", seed, ", step ", i), b.d, last.d, sameModels(b.m, last.m))
			if r.IntN(50) == 0 {
				last = rebuilt(r, b)
			}
		}
		if met[api.OK] < 50 || met[api.ErrDomain] < 50 {
			t.Errorf("seed %d: %v", seed, met)
		}
		same(t, "built anew", b.d, rebuilt(r, b).d, true)
	}
}

// rebuilt is a Domains with the same nodes and pods, that came to them in another order and by other labels.
func rebuilt(r source, b both) both {
	b.t.Helper()
	other := made(b.t)
	for slot := range b.m.nodes {
		other.addNode(slot, r.rightLabels()...)
	}
	for slot, p := range b.m.pods {
		if r.IntN(2) == 0 {
			other.addPod(slot, p.node, r.rightLabels()...)
			other.dropPod(slot, p.node)
		}
		other.addPod(slot, p.node, p.labels...)
	}
	for slot, list := range b.m.nodes {
		other.setNode(slot, list...)
	}
	other.check("built anew")
	return other
}

// P9.2, P9.4, P9.5: every course of four changes over two nodes, two pods and two lists, behind it what the model is.
func TestEveryShortCourse(t *testing.T) {
	one, two := tags("zone", "x"), tags("app", "x", "zone", "y")
	all := []api.Change{
		nodeAdd(0, one...), nodeAdd(1, two...), nodeSet(0, two...), nodeSet(0), nodeSet(1, one...),
		nodeDel(0), nodeDel(1), podAdd(0, 0, one...), podAdd(0, 1, two...), podAdd(1, 0, two...), podDel(0, 0), podDel(1, 0),
	}
	courses := 1
	for range 4 {
		courses *= len(all)
	}
	for course := range courses {
		b := made(t)
		b.addNode(0, one...)
		for rest, i := course, 0; i < 4; rest, i = rest/len(all), i+1 {
			b.apply(all[rest%len(all)])
		}
		glance(b, "course "+strconv.Itoa(course))
	}
}

// glance is a check of what the short courses may change, and no more.
func glance(b both, when string) {
	b.t.Helper()
	if got, want := b.d.Keys(), b.m.keys(); !slices.Equal(got, want) {
		b.t.Fatalf("%s: Keys %q, want %q", when, got, want)
	}
	for _, in := range tags("app", "x", "zone", "x", "zone", "y") {
		gives(b.t, when+": Values", b.d.Values(in.Key), b.m.values(in.Key))
		is(b.t, when+": Pods", b.d.Pods(in.Key, in.Value), api.MaxPods, b.m.podsIn(in.Key, in.Value))
		for _, has := range tags("app", "x", "zone", "x", "zone", "y") {
			if got, want := b.d.Count(in.Key, in.Value, has.Key, has.Value), b.m.count(in.Key, in.Value, has); got != want {
				b.t.Fatalf("%s: Count of %v in %v: %d, want %d", when, has, in, got, want)
			}
		}
	}
}

// call is one call to a cluster by chance, mostly one that is accepted.
func (r source) call(c *cluster.Cluster, gone int) (api.Change, error) {
	node, pod := "n"+strconv.Itoa(r.IntN(9)), "p"+strconv.Itoa(r.IntN(25))
	key := r.oneOf("zone", "app", "disk", "example.org/gpu", "_")
	goes := r.IntN(10) < gone
	cpu := []api.Item{{Name: "cpu", N: 1 + r.IntN(6)}}
	switch r.IntN(12) {
	case 0, 1:
		if goes {
			return c.Remove(node)
		}
		list := r.rightLabels()
		slices.Reverse(list)
		return c.Add(api.Node{Name: node, Labels: list, Cap: cpu})
	case 2, 3:
		return c.Label(node, key, r.oneOf("", "x", "y", "-5"))
	case 4:
		return c.Unlabel(node, key)
	case 5:
		return c.Taint(node, api.Taint{Key: key, Effect: api.NoSchedule})
	case 6:
		if goes {
			return c.Untaint(node, key, api.NoSchedule)
		}
		return c.Cordon(node, r.IntN(2) == 0)
	case 7:
		return c.Resize(node, cpu)
	}
	if goes {
		return c.Unbind(pod)
	}
	list := r.rightLabels()
	r.Shuffle(len(list), func(i, j int) { list[i], list[j] = list[j], list[i] })
	return c.Bind(api.Pod{Name: pod, Labels: list, Needs: cpu[:r.IntN(2)]}, node)
}

// P9.3: behind each accepted call of long courses, a Domains that was told all changes takes the next one, and is the same as one built anew.
func TestFollowsCluster(t *testing.T) {
	for seed := range uint64(8) {
		r := source{rand.New(rand.NewPCG(seed, 93))}
		c, d := cluster.New(), domain.New()
		gone, kinds := 5, map[api.ChangeKind]int{}
		for i := range 2500 {
			if i%100 == 0 {
				gone = 1 + r.IntN(8)
			}
			ch, err := r.call(c, gone)
			if err != nil {
				continue
			}
			kinds[ch.Kind]++
			when := fmt.Sprint("seed ", seed, ", step ", i)
			if got := d.Apply(ch); got != api.OK {
				t.Fatalf("%s: %d of %+v", when, got, ch)
			}
			same(t, when, d, domain.Build(c), true)
			if i%60 == 0 {
				check(t, when, d, modelOf(c))
				check(t, when+", built", domain.Build(c), modelOf(c))
			}
		}
		for kind := api.ChangeNodeAdd; kind <= api.ChangePodDel; kind++ {
			if kinds[kind] < 20 {
				t.Errorf("seed %d: only %d changes of the kind %d", seed, kinds[kind], kind)
			}
		}
	}
}

// P9.3: a change that isn't told makes it unlike the cluster's own, and the next ones may not fit.
func TestMissedChange(t *testing.T) {
	c, d, ok := cluster.New(), domain.New(), accepted(t)
	answers(t, "a node", d.Apply(ok(c.Add(api.Node{Name: "a"}))), api.OK)
	ok(c.Add(api.Node{Name: "b"}))
	same(t, "one node isn't told", d, domain.Build(c), false)
	answers(t, "its label", d.Apply(ok(c.Label("b", "zone", "x"))), api.ErrDomain)
	answers(t, "its pod", d.Apply(ok(c.Bind(api.Pod{Name: "p"}, "b"))), api.ErrDomain)
	answers(t, "its pod goes", d.Apply(ok(c.Unbind("p"))), api.ErrDomain)
	answers(t, "it goes", d.Apply(ok(c.Remove("b"))), api.ErrDomain)
	same(t, "the node has gone", d, domain.Build(c), true)
}

// P9.3: a cluster that is filled with nodes and pods, set about and emptied again.
func TestFollowsFullCluster(t *testing.T) {
	c, d, ok := cluster.New(), domain.New(), accepted(t)
	tell := func(ch api.Change) {
		t.Helper()
		if got := d.Apply(ch); got != api.OK {
			t.Fatalf("%d of %+v", got, ch)
		}
	}
	name, pod := func(i int) string { return "n" + strconv.Itoa(i) }, func(i int) string { return "p" + strconv.Itoa(i) }
	for i := range api.MaxNodes {
		tell(ok(c.Add(api.Node{Name: name(i), Labels: tags("zone", strconv.Itoa(i%5))})))
	}
	for i := range api.MaxPods {
		tell(ok(c.Bind(api.Pod{Name: pod(i), Labels: tags("app", strconv.Itoa(i%3))}, name(i*7%api.MaxNodes))))
	}
	same(t, "full", d, domain.Build(c), true)
	for i := range api.MaxNodes {
		tell(ok(c.Label(name(i), "zone", strconv.Itoa(i%4))))
		tell(ok(c.Label(name(i), "rack", strconv.Itoa(i))))
	}
	same(t, "set", d, domain.Build(c), true)
	if n := d.Count("zone", "3", "app", "1"); n != modelOf(c).count("zone", "3", api.Label{Key: "app", Value: "1"}) {
		t.Errorf("Count: %d", n)
	}
	for i := range api.MaxPods {
		tell(ok(c.Unbind(pod(i))))
	}
	for i := range api.MaxNodes {
		tell(ok(c.Remove(name(i))))
	}
	same(t, "emptied", d, nil, true)
	check(t, "emptied", d, newModel())
}
