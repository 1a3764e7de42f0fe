package index_test

import (
	"fmt"
	"maps"
	"math"
	"slices"
	"strings"
	"testing"

	"berth/api"
	"berth/bitset"
	"berth/index"
	"berth/labels"
	"berth/quant"
	"berth/taint"
)

// model is an index by its meaning alone: the rows by their slots, gone through anew for each answer.
type model struct {
	nodes map[int]api.Node
	pods  map[int]bound
}

// bound is a pod's row.
type bound struct {
	name   string
	labels []api.Label
	node   int
}

func newModel() *model { return &model{map[int]api.Node{}, map[int]bound{}} }

// isMade: may this node be, and are its lists made?
func isMade(n api.Node) bool {
	_, err := labels.Check(n.Labels)
	return labels.IsName(n.Name) && err == api.OK && taint.Check(n.Taints) == api.OK && quant.Check(n.Cap) == api.OK
}

// isPod: may this pod's row be?
func isPod(p api.Pod) bool {
	_, err := labels.Check(p.Labels)
	return labels.IsName(p.Name) && err == api.OK
}

func cloned(n api.Node) api.Node {
	n.Labels, n.Taints, n.Cap = slices.Clone(n.Labels), slices.Clone(n.Taints), slices.Clone(n.Cap)
	return n
}

// apply is the table of P10.2, line by line.
func (m *model) apply(ch api.Change) api.Errno {
	n, there := m.nodes[ch.Slot]
	p, taken := m.pods[ch.PodSlot]
	nodeNamed := len(m.name(api.OfNode, ch.Now.Name)) > 0
	podNamed := len(m.name(api.OfIt, ch.Pod.Name)) > 0
	inNodes, inPods := ch.Slot >= 0 && ch.Slot < api.MaxNodes, ch.PodSlot >= 0 && ch.PodSlot < api.MaxPods
	switch {
	case ch.Kind == api.ChangeNodeAdd && inNodes && !there && !nodeNamed && isMade(ch.Now):
		m.nodes[ch.Slot] = cloned(ch.Now)
	case ch.Kind == api.ChangeNodeDel && there && len(m.on(ch.Slot)) == 0:
		delete(m.nodes, ch.Slot)
	case ch.Kind == api.ChangeNodeSet && there && n.Name == ch.Now.Name && isMade(ch.Now):
		m.nodes[ch.Slot] = cloned(ch.Now)
	case ch.Kind == api.ChangePodAdd && there && inPods && !taken && !podNamed && isPod(ch.Pod):
		m.pods[ch.PodSlot] = bound{ch.Pod.Name, slices.Clone(ch.Pod.Labels), ch.Slot}
	case ch.Kind == api.ChangePodDel && taken && p.node == ch.Slot:
		delete(m.pods, ch.PodSlot)
	default:
		return api.ErrChange
	}
	return api.OK
}

// where is the slots of the rows of a side that fit.
func (m *model) where(of api.Side, fit func(name string, list []api.Label) bool) []int {
	var slots []int
	if of == api.OfNode {
		return m.nodesWhere(func(_ int, n api.Node) bool { return fit(n.Name, n.Labels) })
	}
	for slot, p := range m.pods {
		if of == api.OfIt && fit(p.name, p.labels) {
			slots = append(slots, slot)
		}
	}
	slices.Sort(slots)
	return slots
}

func (m *model) nodesWhere(fit func(slot int, n api.Node) bool) []int {
	var slots []int
	for slot, n := range m.nodes {
		if fit(slot, n) {
			slots = append(slots, slot)
		}
	}
	slices.Sort(slots)
	return slots
}

func (m *model) on(slot int) []int {
	var slots []int
	for at, p := range m.pods {
		if p.node == slot {
			slots = append(slots, at)
		}
	}
	return slots
}

func (m *model) live(of api.Side) []int {
	return m.where(of, func(string, []api.Label) bool { return true })
}

func (m *model) label(of api.Side, key string, values []string) []int {
	return m.where(of, func(_ string, list []api.Label) bool {
		value, has := valueOf(list, key)
		return has && slices.Contains(values, value)
	})
}

func (m *model) has(of api.Side, keys []string) []int {
	return m.where(of, func(_ string, list []api.Label) bool {
		return slices.ContainsFunc(list, func(l api.Label) bool { return slices.Contains(keys, l.Key) })
	})
}

func (m *model) name(of api.Side, names ...string) []int {
	return m.where(of, func(name string, _ []api.Label) bool { return slices.Contains(names, name) })
}

func (m *model) number(of api.Side, key string, fit func(n int) bool) []int {
	return m.where(of, func(_ string, list []api.Label) bool {
		value, has := valueOf(list, key)
		n, ok := labels.Int(value)
		return has && ok && fit(n)
	})
}

func (m *model) cap(resource string, fit func(n int) bool) []int {
	return m.nodesWhere(func(_ int, n api.Node) bool { return fit(amountOf(n.Cap, resource)) })
}

func (m *model) tainted(keys []string) []int {
	return m.nodesWhere(func(_ int, n api.Node) bool {
		return slices.ContainsFunc(n.Taints, func(t api.Taint) bool { return slices.Contains(keys, t.Key) })
	})
}

func (m *model) tolerated(os []api.Toleration, effect string) []int {
	return m.nodesWhere(func(_ int, n api.Node) bool { return taint.Tolerated(n.Taints, os, effect) })
}

func (m *model) open() []int {
	return m.nodesWhere(func(_ int, n api.Node) bool { return !n.Cordoned })
}

// beside is the pods beside a node, and whether it has the key.
func (m *model) beside(topo string, slot int) ([]int, bool) {
	value, has := valueOf(m.nodes[slot].Labels, topo)
	var slots []int
	for at, p := range m.pods {
		other, too := valueOf(m.nodes[p.node].Labels, topo)
		if has && too && value == other {
			slots = append(slots, at)
		}
	}
	return slots, has
}

// count is the nodes that have the key and whose number of these pods fits.
func (m *model) count(topo string, pods *bitset.Set, fit func(n int) bool) []int {
	return m.nodesWhere(func(slot int, _ api.Node) bool {
		beside, has := m.beside(topo, slot)
		n := 0
		for _, at := range beside {
			if pods.Has(at) {
				n++
			}
		}
		return has && fit(n)
	})
}

func (m *model) with(topo string, slot int, l api.Label) (int, bool) {
	beside, has := m.beside(topo, slot)
	n := 0
	for _, at := range beside {
		if slices.Contains(m.pods[at].labels, l) {
			n++
		}
	}
	return n, has
}

func valueOf(list []api.Label, key string) (string, bool) {
	for _, l := range list {
		if l.Key == key {
			return l.Value, true
		}
	}
	return "", false
}

func amountOf(items []api.Item, name string) int {
	for _, it := range items {
		if it.Name == name {
			return it.N
		}
	}
	return 0
}

// so is whether a number stands so to n.
func so(cmp api.Cmp, n int) func(a int) bool {
	return func(a int) bool {
		return cmp == api.CmpEq && a == n || cmp == api.CmpNe && a != n || cmp == api.CmpLt && a < n ||
			cmp == api.CmpLe && a <= n || cmp == api.CmpGt && a > n || cmp == api.CmpGe && a >= n
	}
}

// among is whether a number is one of these.
func among(ns []int) func(a int) bool { return func(a int) bool { return slices.Contains(ns, a) } }

func sameModels(a, b *model) bool {
	return maps.EqualFunc(a.nodes, b.nodes, func(n, o api.Node) bool {
		return n.Name == o.Name && n.Cordoned == o.Cordoned && slices.Equal(n.Labels, o.Labels) && slices.Equal(n.Taints, o.Taints) && slices.Equal(n.Cap, o.Cap)
	}) && maps.EqualFunc(a.pods, b.pods, func(p, q bound) bool {
		return p.name == q.name && p.node == q.node && slices.Equal(p.labels, q.labels)
	})
}

// oddInts are numbers that are no slot, or are at the edge of one.
var oddInts = []int{math.MinInt, math.MinInt + 1, -1 << 32, -65, -64, -1, api.MaxNodes, api.MaxNodes + 1, api.MaxPods, api.MaxPods + 1, api.MaxUniverse, 1 << 32, 1 << 62, math.MaxInt}

// oddTexts are texts that no row has anywhere.
var oddTexts = []string{"", " ", "=", "-", "/", "a/b/c", "\x00", "\xff\xfe", "é", "zone\x00", "zone ", "ZONE", "zon", strings.Repeat("k", 63), strings.Repeat("k", 5000)}

// cmps are the six comparisons and some numbers that are none.
var cmps = []api.Cmp{api.CmpEq, api.CmpNe, api.CmpLt, api.CmpLe, api.CmpGt, api.CmpGe, 0, 7, -1, 1<<32 + 1, math.MinInt, math.MaxInt}

// sides are the two that have rows, the other two, and some that are none.
var sides = []api.Side{api.OfNode, api.OfIt, api.Fixed, api.OfPod, 4, -1, math.MinInt, math.MaxInt, 1<<32 + 2}

// effects are the three, and some texts that are none.
var effects = []string{api.NoSchedule, api.PreferNoSchedule, api.NoExecute, "", "noschedule", "NoSchedule ", "*"}

// tolerations are lists of every form: of one key, of every key, of one effect and of every one, with values, and such as may not stand in a pod.
func tolerations() [][]api.Toleration {
	every := api.Toleration{Op: api.Exists}
	gpu := api.Toleration{Key: "gpu", Op: api.Exists}
	return [][]api.Toleration{
		nil, {}, {every}, {gpu}, {gpu, gpu},
		{{Key: "gpu", Op: api.Exists, Effect: api.NoSchedule}},
		{{Key: "gpu", Op: api.Equal, Value: "x"}},
		{{Key: "gpu", Op: api.Equal, Value: "x", Effect: api.NoExecute}, {Key: "gpu", Op: api.Equal}},
		{{Op: api.Exists, Effect: api.PreferNoSchedule}},
		{{Op: api.Exists, Effect: api.NoExecute}, {Key: "disk", Op: api.Exists}},
		{{Key: "disk", Op: api.Equal, Value: ""}, gpu},
		{{Key: "gpu"}, {Op: api.Equal}, {Key: "gpu", Op: "exists"}, {Key: "gpu", Op: api.Exists, Effect: "?"}},
		slices.Repeat([]api.Toleration{{Key: "other", Op: api.Exists}}, 40),
	}
}

// set is a set of this size; a size or a member that may not be ends the test.
func set(t *testing.T, size int, members ...int) *bitset.Set {
	t.Helper()
	s, err := bitset.From(size, members)
	if err != api.OK {
		t.Fatalf("From(%d, %v): %d", size, members, err)
	}
	return s
}

// podSets are the sets that are handed in: nil, of other sizes, with members that are rows' slots and such as aren't.
func podSets(t *testing.T, m *model) []*bitset.Set {
	t.Helper()
	all, half := set(t, api.MaxPods), set(t, api.MaxPods)
	for i, slot := range m.live(api.OfIt) {
		all.Add(slot)
		if i%2 == 0 {
			half.Add(slot)
		}
	}
	full, _ := bitset.FromWords(api.MaxUniverse, slices.Repeat([]uint64{math.MaxUint64}, api.MaxUniverse/64))
	return []*bitset.Set{nil, set(t, 0), set(t, api.MaxPods), all, half, full, set(t, 3, 0, 2), bitset.Not(all, full)}
}

// is holds a set that was answered to its size and members.
func is(t *testing.T, what string, got *bitset.Set, size int, want []int) {
	t.Helper()
	if got == nil {
		t.Fatalf("%s: nil", what)
	}
	if got.Size() != size || !slices.Equal(got.Members(), want) {
		t.Fatalf("%s: %v of %d, want %v of %d", what, got.Members(), got.Size(), want, size)
	}
}

// look holds what an index answers against the model.
type look struct {
	t    *testing.T
	when string
	x    *index.Index
	m    *model
}

// is holds a set of a side to its members, and to its universe where that isn't free.
func (l look) is(of api.Side, got *bitset.Set, want []int, call string, args ...any) {
	l.t.Helper()
	if got == nil {
		l.t.Fatalf("%s: %s%v: nil", l.when, call, args)
	}
	size := map[api.Side]int{api.OfNode: api.MaxNodes, api.OfIt: api.MaxPods}[of]
	if size > 0 && got.Size() != size {
		l.t.Fatalf("%s: %s%v: a universe of %d, want %d", l.when, call, args, got.Size(), size)
	}
	if !slices.Equal(got.Members(), want) {
		l.t.Fatalf("%s: %s%v: %v, want %v", l.when, call, args, got.Members(), want)
	}
}

// check holds all that an index tells against the model.
func check(t *testing.T, when string, x *index.Index, m *model) {
	t.Helper()
	l := look{t, when, x, m}
	for _, of := range sides[:5] {
		l.side(of)
	}
	l.caps()
	l.taints()
	sets := podSets(t, m)
	for _, topo := range []string{"zone", "rank", "app", "disk", "", "none"} {
		for i, pods := range sets {
			l.pods(topo, i, pods)
		}
		l.with(topo)
	}
}

func (l look) side(of api.Side) {
	l.t.Helper()
	l.is(of, l.x.Live(of), l.m.live(of), "Live", of)
	for _, key := range []string{"zone", "rank", "app", "disk", "", "none"} {
		for _, values := range [][]string{nil, {"x"}, {"y", "x", "y"}, {""}, {"3", "-5", "web", "none"}, oddTexts} {
			l.is(of, l.x.Label(of, key, values), l.m.label(of, key, values), "Label", of, key, values)
		}
		l.numbers(of, key)
	}
	for _, keys := range [][]string{nil, {}, {"zone"}, {"rank", "app", "rank"}, {"disk", "none", ""}, {"none"}, oddTexts, {"zone", "rank", "app", "disk"}} {
		l.is(of, l.x.Has(of, keys), l.m.has(of, keys), "Has", of, keys)
	}
	for _, names := range [][]string{nil, {}, {"a"}, {"p", "c", "n1", "p1", "a", "b", "c"}, {"none", ""}, {"x", "zone"}, oddTexts} {
		l.is(of, l.x.Name(of, names), l.m.name(of, names...), "Name", of, names)
	}
}

func (l look) numbers(of api.Side, key string) {
	l.t.Helper()
	for _, n := range []int{math.MinInt, -6, -5, -1, 0, 2, 3, 4, 7, math.MaxInt} {
		for _, cmp := range cmps {
			l.is(of, l.x.Number(of, key, cmp, n), l.m.number(of, key, so(cmp, n)), "Number", of, key, cmp, n)
		}
	}
	for _, ns := range [][]int{nil, {}, {3}, {7, -5, 7, 9}, {0}, {math.MinInt, 3, math.MaxInt}} {
		l.is(of, l.x.NumberIn(of, key, ns), l.m.number(of, key, among(ns)), "NumberIn", of, key, ns)
	}
}

func (l look) caps() {
	l.t.Helper()
	for _, resource := range append([]string{"cpu", "mem", "example/gpu", "none", "zone"}, oddTexts[:6]...) {
		for _, n := range []int{math.MinInt, -1, 0, 1, 3, 4, 5, 8, math.MaxInt} {
			for _, cmp := range cmps {
				l.is(api.OfNode, l.x.Cap(resource, cmp, n), l.m.cap(resource, so(cmp, n)), "Cap", resource, cmp, n)
			}
		}
		for _, ns := range [][]int{nil, {}, {0}, {4}, {8, 0, 4, 8}, {math.MinInt, -1, math.MaxInt}} {
			l.is(api.OfNode, l.x.CapIn(resource, ns), l.m.cap(resource, among(ns)), "CapIn", resource, ns)
		}
	}
}

func (l look) taints() {
	l.t.Helper()
	for _, keys := range [][]string{nil, {}, {"gpu"}, {"disk", "none", "disk"}, {"gpu", "zone", "disk"}, {"x", api.NoSchedule}, oddTexts} {
		l.is(api.OfNode, l.x.Tainted(keys), l.m.tainted(keys), "Tainted", keys)
	}
	for _, effect := range effects {
		for _, os := range tolerations() {
			l.is(api.OfNode, l.x.Tolerated(os, effect), l.m.tolerated(os, effect), "Tolerated", os, effect)
		}
	}
	l.is(api.OfNode, l.x.Open(), l.m.open(), "Open")
}

func (l look) pods(topo string, i int, pods *bitset.Set) {
	l.t.Helper()
	size, members := pods.Size(), pods.Clone()
	l.is(api.OfNode, l.x.Near(topo, pods), l.m.count(topo, pods, so(api.CmpGt, 0)), "Near", topo, "set", i)
	for _, n := range []int{math.MinInt, -1, 0, 1, 2, 3, math.MaxInt} {
		for _, cmp := range cmps[:8] {
			l.is(api.OfNode, l.x.Count(topo, pods, cmp, n), l.m.count(topo, pods, so(cmp, n)), "Count", topo, "set", i, cmp, n)
		}
	}
	for _, ns := range [][]int{nil, {}, {0}, {2, 1, 2}, {math.MaxInt, 0, -1, 3}, {-1, math.MinInt}} {
		l.is(api.OfNode, l.x.CountIn(topo, pods, ns), l.m.count(topo, pods, among(ns)), "CountIn", topo, "set", i, ns)
	}
	if pods.Size() != size || !bitset.Equal(pods, members) {
		l.t.Fatalf("%s: set %d, which was handed in, has changed", l.when, i)
	}
}

func (l look) with(topo string) {
	l.t.Helper()
	slots := slices.Concat(oddInts, slices.Collect(maps.Keys(l.m.nodes)), []int{0, 1, 2, 3, 63, 64, api.MaxNodes - 1})
	for _, has := range tags("app", "web", "app", "db", "zone", "x", "rank", "3", "web", "app", "app", "", "", "", "", "web") {
		for _, slot := range slots {
			n, ok := l.m.with(topo, slot, has)
			if got, there := l.x.With(topo, slot, has.Key, has.Value); got != n || there != ok {
				l.t.Fatalf("%s: %s", l.when, fmt.Sprintf("With(%q, %d, %v): %d, %v, want %d, %v", topo, slot, has, got, there, n, ok))
			}
		}
	}
}
