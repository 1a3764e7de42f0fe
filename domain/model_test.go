package domain_test

import (
	"fmt"
	"iter"
	"maps"
	"math"
	"slices"
	"strings"
	"testing"

	"berth/api"
	"berth/bitset"
	"berth/domain"
	"berth/labels"
)

// model is a Domains by its meaning alone: nodes and pods by their slots, gone through anew for each answer.
type model struct {
	nodes map[int][]api.Label
	pods  map[int]bound
}

// bound is a pod with its labels and its node's slot.
type bound struct {
	labels []api.Label
	node   int
}

// step is what a walk gives in one step.
type step struct {
	value string
	n     int
}

func newModel() *model { return &model{map[int][]api.Label{}, map[int]bound{}} }

func isList(list []api.Label) bool {
	_, err := labels.Check(list)
	return err == api.OK
}

// apply is the table of P9.2, line by line.
func (m *model) apply(ch api.Change) api.Errno {
	if ch.Slot < 0 || ch.Slot >= api.MaxNodes {
		return api.ErrDomain
	}
	ofPod := ch.Kind == api.ChangePodAdd || ch.Kind == api.ChangePodDel
	if ofPod && (ch.PodSlot < 0 || ch.PodSlot >= api.MaxPods) {
		return api.ErrDomain
	}
	_, there := m.nodes[ch.Slot]
	p, taken := m.pods[ch.PodSlot]
	switch {
	case ch.Kind == api.ChangeNodeAdd && !there && isList(ch.Now.Labels):
		m.nodes[ch.Slot] = slices.Clone(ch.Now.Labels)
	case ch.Kind == api.ChangeNodeDel && there && len(m.on(ch.Slot)) == 0:
		delete(m.nodes, ch.Slot)
	case ch.Kind == api.ChangeNodeSet && there && isList(ch.Now.Labels):
		m.nodes[ch.Slot] = slices.Clone(ch.Now.Labels)
	case ch.Kind == api.ChangePodAdd && there && !taken && isList(ch.Pod.Labels):
		m.pods[ch.PodSlot] = bound{slices.Clone(ch.Pod.Labels), ch.Slot}
	case ch.Kind == api.ChangePodDel && taken && p.node == ch.Slot:
		delete(m.pods, ch.PodSlot)
	default:
		return api.ErrDomain
	}
	return api.OK
}

// on is the pods on a node.
func (m *model) on(slot int) []int {
	return m.podsWhere(func(p bound) bool { return p.node == slot })
}

func (m *model) podsWhere(fit func(p bound) bool) []int {
	var slots []int
	for slot, p := range m.pods {
		if fit(p) {
			slots = append(slots, slot)
		}
	}
	slices.Sort(slots)
	return slots
}

// nodesWhere is the nodes that have the key with a value that fits.
func (m *model) nodesWhere(key string, fit func(value string) bool) []int {
	var slots []int
	for slot := range m.nodes {
		if value, has := m.of(key, slot); has && fit(value) {
			slots = append(slots, slot)
		}
	}
	slices.Sort(slots)
	return slots
}

func (m *model) of(key string, slot int) (string, bool) {
	for _, l := range m.nodes[slot] {
		if l.Key == key {
			return l.Value, true
		}
	}
	return "", false
}

func (m *model) keys() []string {
	var all []string
	for _, list := range m.nodes {
		for _, l := range list {
			all = append(all, l.Key)
		}
	}
	slices.Sort(all)
	return slices.Compact(all)
}

func (m *model) values(key string) []step {
	var steps []step
	for value := range m.valuesOf(key) {
		steps = append(steps, step{value, len(m.nodesIn(key, value))})
	}
	return steps
}

// valuesOf gives the values of a key that some node has, rising, each once.
func (m *model) valuesOf(key string) iter.Seq[string] {
	var all []string
	for slot := range m.nodes {
		if value, has := m.of(key, slot); has {
			all = append(all, value)
		}
	}
	slices.Sort(all)
	return slices.Values(slices.Compact(all))
}

func (m *model) nodesIn(key, value string) []int {
	return m.nodesWhere(key, func(v string) bool { return v == value })
}

func (m *model) podsIn(key, value string) []int {
	return m.podsWhere(func(p bound) bool {
		v, has := m.of(key, p.node)
		return has && v == value
	})
}

func (m *model) count(key, value string, l api.Label) int {
	n := 0
	for _, slot := range m.podsIn(key, value) {
		if slices.Contains(m.pods[slot].labels, l) {
			n++
		}
	}
	return n
}

// these is how many of the domain's pods are members of the set.
func (m *model) these(key, value string, pods *bitset.Set) int {
	n := 0
	for _, slot := range m.podsIn(key, value) {
		if pods.Has(slot) {
			n++
		}
	}
	return n
}

func (m *model) near(key string, pods *bitset.Set) []int {
	return m.nodesWhere(key, func(v string) bool { return m.these(key, v, pods) > 0 })
}

func (m *model) tally(key string, pods *bitset.Set) []step {
	var steps []step
	for value := range m.valuesOf(key) {
		steps = append(steps, step{value, m.these(key, value, pods)})
	}
	return steps
}

func (m *model) ranked(key string, pods *bitset.Set, cmp api.Cmp, n int) []int {
	return m.rankedBy(key, m.tally(key, pods), cmp, n)
}

// rankedBy is ranked by the counts of a tally.
func (m *model) rankedBy(key string, tally []step, cmp api.Cmp, n int) []int {
	so := map[string]bool{}
	for _, s := range tally {
		so[s.value] = cmp == api.CmpEq && s.n == n || cmp == api.CmpNe && s.n != n ||
			cmp == api.CmpLt && s.n < n || cmp == api.CmpLe && s.n <= n ||
			cmp == api.CmpGt && s.n > n || cmp == api.CmpGe && s.n >= n
	}
	return m.nodesWhere(key, func(v string) bool { return so[v] })
}

func sameModels(a, b *model) bool {
	return maps.EqualFunc(a.nodes, b.nodes, slices.Equal) &&
		maps.EqualFunc(a.pods, b.pods, func(p, q bound) bool {
			return p.node == q.node && slices.Equal(p.labels, q.labels)
		})
}

// oddInts are numbers that are no slot, or are at the edge of one.
var oddInts = []int{math.MinInt, math.MinInt + 1, -1 << 32, -65, -64, -1, api.MaxNodes, api.MaxNodes + 1, api.MaxPods, api.MaxPods + 1, api.MaxUniverse, 1 << 32, 1 << 62, math.MaxInt}

// oddTexts are texts that no label has, and some that a label might have.
var oddTexts = []string{"", " ", "=", "-", "/", "a/b/c", "\x00", "\xff\xfe", "é", "zone\x00", "zone ", "ZONE", "zon", strings.Repeat("k", 63), strings.Repeat("k", 5000)}

// cmps are the six comparisons and some numbers that are none.
var cmps = []api.Cmp{api.CmpEq, api.CmpNe, api.CmpLt, api.CmpLe, api.CmpGt, api.CmpGe, 0, 7, -1, 1 << 40, math.MinInt, math.MaxInt}

// walked is what a walk gives.
func walked(walk iter.Seq2[string, int]) []step {
	var steps []step
	for value, n := range walk {
		steps = append(steps, step{value, n})
	}
	return steps
}

// set is a set of this size; a size or a member that may not be ends the test.
func set(t *testing.T, size int, members ...int) *bitset.Set {
	t.Helper()
	s, err := bitset.From(size, members)
	if err != api.OK {
		t.Fatalf("From(%d, %v): %d", size, members, err)
	}
	return s
}

// podSets are the sets that are handed in: nil, of other sizes, with members that are kept and such as aren't.
func podSets(t *testing.T, m *model) []*bitset.Set {
	t.Helper()
	all, half := set(t, api.MaxPods), set(t, api.MaxPods)
	for i, slot := range m.podsWhere(func(bound) bool { return true }) {
		all.Add(slot)
		if i%2 == 0 {
			half.Add(slot)
		}
	}
	full, _ := bitset.FromWords(api.MaxUniverse, slices.Repeat([]uint64{math.MaxUint64}, api.MaxUniverse/64))
	few, others := set(t, 3, 0, 2), bitset.Not(all, full)
	return []*bitset.Set{nil, set(t, 0), set(t, api.MaxPods), all, half, full, few, others}
}

// is holds a set that was answered to its size and members.
func is(t *testing.T, what string, got *bitset.Set, size int, want []int) {
	t.Helper()
	if got == nil {
		t.Fatalf("%s: nil", what)
	}
	if got.Size() != size || !slices.Equal(got.Members(), want) {
		t.Fatalf("%s: %v of %d, want %v of %d", what, got.Members(), got.Size(), want, size)
	}
}

// gives holds a walk to its steps.
func gives(t *testing.T, what string, walk iter.Seq2[string, int], want []step) {
	t.Helper()
	if walk == nil {
		t.Fatalf("%s: nil", what)
	}
	if got := walked(walk); !slices.Equal(got, want) {
		t.Fatalf("%s: %v, want %v", what, got, want)
	}
}

// check holds all that a Domains tells against the model.
func check(t *testing.T, when string, d *domain.Domains, m *model) {
	t.Helper()
	if got, want := d.Keys(), m.keys(); !slices.Equal(got, want) {
		t.Fatalf("%s: Keys %q, want %q", when, got, want)
	}
	sets := podSets(t, m)
	for _, key := range slices.Concat(m.keys(), oddTexts[:6], []string{"app", "disk", "zone"}) {
		checkSlots(t, when, d, m, key)
		checkValues(t, when, d, m, key)
		for i, pods := range sets {
			checkPods(t, fmt.Sprint(when, ", set ", i), d, m, key, pods)
		}
	}
}

func checkSlots(t *testing.T, when string, d *domain.Domains, m *model, key string) {
	t.Helper()
	asked := slices.Concat(oddInts, slices.Collect(maps.Keys(m.nodes)))
	for slot := range 9 {
		asked = append(asked, slot, api.MaxNodes-slot)
	}
	for _, slot := range asked {
		want, has := m.of(key, slot)
		if got, ok := d.Of(key, slot); got != want || ok != has {
			t.Fatalf("%s: Of(%q, %d) = %q, %v, want %q, %v", when, key, slot, got, ok, want, has)
		}
	}
}

func checkValues(t *testing.T, when string, d *domain.Domains, m *model, key string) {
	t.Helper()
	gives(t, fmt.Sprintf("%s: Values(%q)", when, key), d.Values(key), m.values(key))
	podLabels := []api.Label{{}, {Key: "app", Value: "web"}, {Key: "zone", Value: "x"}, {Key: "web", Value: "app"}, {Key: "app"}, {Value: "web"}}
	for _, p := range m.pods {
		podLabels = append(podLabels, p.labels...)
	}
	for _, value := range slices.Concat(slices.Collect(m.valuesOf(key)), oddTexts[:3], []string{"x", "y"}) {
		what := fmt.Sprintf("%s: %q %q", when, key, value)
		is(t, what+": Nodes", d.Nodes(key, value), api.MaxNodes, m.nodesIn(key, value))
		is(t, what+": Pods", d.Pods(key, value), api.MaxPods, m.podsIn(key, value))
		for _, l := range podLabels {
			if got, want := d.Count(key, value, l.Key, l.Value), m.count(key, value, l); got != want {
				t.Fatalf("%s: Count of %v is %d, want %d", what, l, got, want)
			}
		}
	}
}

func checkPods(t *testing.T, when string, d *domain.Domains, m *model, key string, pods *bitset.Set) {
	t.Helper()
	what := fmt.Sprintf("%s: %q", when, key)
	size, members := pods.Size(), pods.Clone()
	is(t, what+": Near", d.Near(key, pods), api.MaxNodes, m.near(key, pods))
	tally := m.tally(key, pods)
	gives(t, what+": Tally", d.Tally(key, pods), tally)
	ns := []int{math.MinInt, -1, 0, 1, 2, math.MaxInt}
	for _, s := range tally {
		ns = append(ns, s.n-1, s.n, s.n+1)
	}
	slices.Sort(ns)
	for _, n := range slices.Compact(ns) {
		for _, cmp := range cmps {
			got, want := d.Ranked(key, pods, cmp, n), m.rankedBy(key, tally, cmp, n)
			if got.Size() != api.MaxNodes || !slices.Equal(got.Members(), want) {
				t.Fatalf("%s: Ranked(%d, %d): %v of %d, want %v", what, cmp, n, got.Members(), got.Size(), want)
			}
		}
	}
	if pods.Size() != size || !bitset.Equal(pods, members) {
		t.Fatalf("%s: the set that was handed in has changed", what)
	}
}
