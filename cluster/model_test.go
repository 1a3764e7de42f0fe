package cluster_test

import (
	"errors"
	"iter"
	"maps"
	"math"
	"math/big"
	"slices"
	"strings"
	"testing"

	"berth/api"
	"berth/cluster"
	"berth/labels"
	"berth/quant"
	"berth/taint"
)

// standing is a node of the model, placed is a pod that is bound.
type standing struct {
	slot int
	node api.Node
}

type placed struct {
	slot int
	pod  api.Pod
	node string
}

// model is a cluster by its meaning alone: what is used is added up anew each time it is asked for.
type model struct {
	nodes map[string]standing
	pods  map[string]placed
}

func newModel() *model { return &model{map[string]standing{}, map[string]placed{}} }

func lowestFree[T any](has map[string]T, slotOf func(T) int) int {
	taken := map[int]struct{}{}
	for _, v := range has {
		taken[slotOf(v)] = struct{}{}
	}
	for slot := 0; ; slot++ {
		if _, is := taken[slot]; !is {
			return slot
		}
	}
}

func slotOfNode(s standing) int { return s.slot }
func slotOfPod(p placed) int    { return p.slot }

func wrong(code api.Errno, name string) *api.Fault {
	return &api.Fault{Code: code, At: -1, Name: name}
}

func wrongAt(code api.Errno, at int) *api.Fault { return &api.Fault{Code: code, At: at} }

// nodeOf is a node with its lists in their order by the chapter's words, or its first fault.
func nodeOf(n api.Node) (api.Node, *api.Fault) {
	ls, key, badLabels := labels.Make(n.Labels)
	ts, at, badTaints := taint.Make(n.Taints)
	items, name, badCap := quant.Make(n.Cap)
	switch {
	case !labels.IsName(n.Name):
		return api.Node{}, wrong(api.ErrName, n.Name)
	case badLabels != api.OK:
		return api.Node{}, wrong(badLabels, key)
	case badTaints != api.OK:
		return api.Node{}, wrongAt(badTaints, at)
	case badCap != api.OK:
		return api.Node{}, wrong(badCap, name)
	}
	return api.Node{Name: n.Name, Labels: ls, Taints: ts, Cap: items, Cordoned: n.Cordoned}, nil
}

// podOf is the same of a pod.
func podOf(p api.Pod) (api.Pod, *api.Fault) {
	ls, key, badLabels := labels.Make(p.Labels)
	items, name, badNeeds := quant.Make(p.Needs)
	at, badTolerations := taint.CheckTolerations(p.Tolerations)
	switch {
	case !labels.IsName(p.Name):
		return api.Pod{}, wrong(api.ErrName, p.Name)
	case badLabels != api.OK:
		return api.Pod{}, wrong(badLabels, key)
	case badNeeds != api.OK:
		return api.Pod{}, wrong(badNeeds, name)
	case badTolerations != api.OK:
		return api.Pod{}, wrongAt(badTolerations, at)
	}
	return api.Pod{Name: p.Name, Labels: ls, Needs: items, Tolerations: slices.Clone(p.Tolerations), Require: p.Require,
		Apart: slices.Clone(p.Apart), Prefer: slices.Clone(p.Prefer), Priority: p.Priority}, nil
}

func (m *model) add(n api.Node) (api.Change, *api.Fault) {
	n, bad := nodeOf(n)
	if bad != nil {
		return api.Change{}, bad
	}
	if _, there := m.nodes[n.Name]; there {
		return api.Change{}, wrong(api.ErrNodeTaken, n.Name)
	}
	if len(m.nodes) >= 512 {
		return api.Change{}, wrong(api.ErrNodeFull, n.Name)
	}
	slot := lowestFree(m.nodes, slotOfNode)
	m.nodes[n.Name] = standing{slot, n}
	return api.Change{Kind: api.ChangeNodeAdd, Slot: slot, PodSlot: -1, Now: n}, nil
}

func (m *model) remove(name string) (api.Change, *api.Fault) {
	s, there := m.nodes[name]
	if !there {
		return api.Change{}, wrong(api.ErrNoNode, name)
	}
	if len(m.on(name)) > 0 {
		return api.Change{}, wrong(api.ErrNodeBusy, name)
	}
	delete(m.nodes, name)
	return api.Change{Kind: api.ChangeNodeDel, Slot: s.slot, PodSlot: -1, Was: s.node}, nil
}

// set is what Label to Resize have in common; how tells what becomes of the node.
func (m *model) set(name string, how func(n api.Node) (api.Node, *api.Fault)) (api.Change, *api.Fault) {
	s, there := m.nodes[name]
	if !there {
		return api.Change{}, wrong(api.ErrNoNode, name)
	}
	now, bad := how(s.node)
	if bad != nil {
		return api.Change{}, bad
	}
	m.nodes[name] = standing{s.slot, now}
	return api.Change{Kind: api.ChangeNodeSet, Slot: s.slot, PodSlot: -1, Was: s.node, Now: now}, nil
}

func (m *model) label(name, key, value string) (api.Change, *api.Fault) {
	return m.set(name, func(n api.Node) (api.Node, *api.Fault) {
		list, code := labels.Put(n.Labels, key, value)
		if code != api.OK {
			return n, wrong(code, key)
		}
		n.Labels = list
		return n, nil
	})
}

func (m *model) unlabel(name, key string) (api.Change, *api.Fault) {
	return m.set(name, func(n api.Node) (api.Node, *api.Fault) {
		list := slices.DeleteFunc(slices.Clone(n.Labels), func(l api.Label) bool { return l.Key == key })
		if len(list) == len(n.Labels) {
			return n, wrong(api.ErrNoTarget, key)
		}
		n.Labels = list
		return n, nil
	})
}

func (m *model) taint(name string, t api.Taint) (api.Change, *api.Fault) {
	return m.set(name, func(n api.Node) (api.Node, *api.Fault) {
		list, code := taint.Put(n.Taints, t)
		if code != api.OK {
			return n, wrong(code, t.Key)
		}
		n.Taints = list
		return n, nil
	})
}

func (m *model) untaint(name, key, effect string) (api.Change, *api.Fault) {
	return m.set(name, func(n api.Node) (api.Node, *api.Fault) {
		list := slices.DeleteFunc(slices.Clone(n.Taints), func(t api.Taint) bool { return t.Key == key && t.Effect == effect })
		if len(list) == len(n.Taints) {
			return n, wrong(api.ErrNoTarget, key)
		}
		n.Taints = list
		return n, nil
	})
}

func (m *model) cordon(name string, on bool) (api.Change, *api.Fault) {
	return m.set(name, func(n api.Node) (api.Node, *api.Fault) { n.Cordoned = on; return n, nil })
}

func (m *model) resize(name string, items []api.Item) (api.Change, *api.Fault) {
	return m.set(name, func(n api.Node) (api.Node, *api.Fault) {
		list, which, code := quant.Make(items)
		if code != api.OK {
			return n, wrong(code, which)
		}
		sums := m.sums(name)
		for _, resource := range slices.Sorted(maps.Keys(sums)) {
			if sums[resource].Cmp(amount(list, resource)) > 0 {
				return n, wrong(api.ErrBelow, resource)
			}
		}
		n.Cap = list
		return n, nil
	})
}

func (m *model) bind(p api.Pod, node string) (api.Change, *api.Fault) {
	p, bad := podOf(p)
	if bad != nil {
		return api.Change{}, bad
	}
	s, there := m.nodes[node]
	if !there {
		return api.Change{}, wrong(api.ErrNoNode, node)
	}
	if _, there := m.pods[p.Name]; there {
		return api.Change{}, wrong(api.ErrPodTaken, p.Name)
	}
	if len(m.pods) >= 2048 {
		return api.Change{}, wrong(api.ErrPodFull, p.Name)
	}
	sums := m.sums(node)
	for _, need := range p.Needs {
		sum := big.NewInt(int64(need.N))
		if used, has := sums[need.Name]; has {
			sum.Add(sum, used)
		}
		if sum.Cmp(amount(s.node.Cap, need.Name)) > 0 {
			return api.Change{}, wrong(api.ErrNoRoom, need.Name)
		}
	}
	slot := lowestFree(m.pods, slotOfPod)
	m.pods[p.Name] = placed{slot, p, node}
	return api.Change{Kind: api.ChangePodAdd, Slot: s.slot, PodSlot: slot, Was: s.node, Now: s.node, Pod: p}, nil
}

func (m *model) unbind(pod string) (api.Change, *api.Fault) {
	b, there := m.pods[pod]
	if !there {
		return api.Change{}, wrong(api.ErrNoPod, pod)
	}
	delete(m.pods, pod)
	s := m.nodes[b.node]
	return api.Change{Kind: api.ChangePodDel, Slot: s.slot, PodSlot: b.slot, Was: s.node, Now: s.node, Pod: b.pod}, nil
}

func amount(items []api.Item, name string) *big.Int {
	sum := new(big.Int)
	for _, i := range items {
		if i.Name == name {
			sum.Add(sum, big.NewInt(int64(i.N)))
		}
	}
	return sum
}

// sums is what the pods on a node need together, resource by resource.
func (m *model) sums(node string) map[string]*big.Int {
	sums := map[string]*big.Int{}
	for _, b := range m.pods {
		if b.node != node {
			continue
		}
		for _, need := range b.pod.Needs {
			if sums[need.Name] == nil {
				sums[need.Name] = new(big.Int)
			}
			sums[need.Name].Add(sums[need.Name], big.NewInt(int64(need.N)))
		}
	}
	return sums
}

func (m *model) on(node string) []string {
	var names []string
	for name, b := range m.pods {
		if b.node == node {
			names = append(names, name)
		}
	}
	slices.Sort(names)
	return names
}

func (m *model) used(node string) []api.Item {
	var items []api.Item
	for name, sum := range m.sums(node) {
		items = append(items, api.Item{Name: name, N: int(sum.Int64())})
	}
	slices.SortFunc(items, func(a, b api.Item) int { return strings.Compare(a.Name, b.Name) })
	return items
}

func (m *model) room(node string) []api.Item {
	sums := m.sums(node)
	var items []api.Item
	for _, c := range m.nodes[node].node.Cap {
		n := c.N
		if sum, has := sums[c.Name]; has {
			n = int(new(big.Int).Sub(big.NewInt(int64(n)), sum).Int64())
		}
		if n != 0 {
			items = append(items, api.Item{Name: c.Name, N: n})
		}
	}
	return items
}

// pair is a step of a walk.
type pair struct {
	slot int
	name string
}

func pairsOf[T any](has map[string]T, slotOf func(T) int) []pair {
	pairs := []pair{}
	for name, v := range has {
		pairs = append(pairs, pair{slotOf(v), name})
	}
	slices.SortFunc(pairs, func(a, b pair) int { return a.slot - b.slot })
	return pairs
}

func walked(walk iter.Seq2[int, string]) []pair {
	pairs := []pair{}
	for slot, name := range walk {
		pairs = append(pairs, pair{slot, name})
	}
	return pairs
}

func sameNode(a, b api.Node) bool {
	return a.Name == b.Name && slices.Equal(a.Labels, b.Labels) && slices.Equal(a.Taints, b.Taints) &&
		slices.Equal(a.Cap, b.Cap) && a.Cordoned == b.Cordoned
}

func samePod(a, b api.Pod) bool {
	return a.Name == b.Name && slices.Equal(a.Labels, b.Labels) && slices.Equal(a.Needs, b.Needs) &&
		slices.Equal(a.Tolerations, b.Tolerations) && a.Require == b.Require && slices.Equal(a.Apart, b.Apart) &&
		slices.Equal(a.Prefer, b.Prefer) && a.Priority == b.Priority
}

func sameChange(a, b api.Change) bool {
	return a.Kind == b.Kind && a.Slot == b.Slot && a.PodSlot == b.PodSlot &&
		sameNode(a.Was, b.Was) && sameNode(a.Now, b.Now) && samePod(a.Pod, b.Pod)
}

// sameFault: is err nil for nil, else a *api.Fault itself that is the one wanted in every field?
func sameFault(err error, want *api.Fault) bool {
	if want == nil {
		return err == nil
	}
	f, is := err.(*api.Fault)
	return is && f != nil && *f == *want && errors.Is(err, want.Code)
}

var (
	oddInts  = []int{math.MinInt, math.MinInt + 1, -1 << 32, -513, -65, -64, -2, -1, 511, 512, 513, 2047, 2048, 2049, 65536, 1 << 32, math.MaxInt - 1, math.MaxInt}
	oddTexts = []string{"", "A", "-a", "a-", "a..b", ".a", "a_b", " ", "\x00", "\xff", "é", "absent", "n-1.z9", strings.Repeat("n", 63), strings.Repeat("n", 64), strings.Repeat("n", 5000)}
)

// check holds every answer about a cluster against the model.
func check(t *testing.T, when string, c *cluster.Cluster, m *model) {
	t.Helper()
	for _, name := range slices.Concat(oddTexts, slices.Collect(maps.Keys(m.nodes)), slices.Collect(maps.Keys(m.pods))) {
		checkNode(t, when, c, m, name)
		checkPod(t, when, c, m, name)
	}
	if got, want := c.Nodes(), slices.Sorted(maps.Keys(m.nodes)); !slices.Equal(got, want) {
		t.Fatalf("%s: Nodes: %q, want %q", when, got, want)
	}
	if got, want := c.Pods(), slices.Sorted(maps.Keys(m.pods)); !slices.Equal(got, want) {
		t.Fatalf("%s: Pods: %q, want %q", when, got, want)
	}
	nodes, pods := pairsOf(m.nodes, slotOfNode), pairsOf(m.pods, slotOfPod)
	if got := walked(c.Slots()); !slices.Equal(got, nodes) {
		t.Fatalf("%s: Slots: %v, want %v", when, got, nodes)
	}
	if got := walked(c.PodSlots()); !slices.Equal(got, pods) {
		t.Fatalf("%s: PodSlots: %v, want %v", when, got, pods)
	}
	checkAt(t, when+": NodeAt", c.NodeAt, nodes)
	checkAt(t, when+": PodAt", c.PodAt, pods)
	live := c.Live()
	var slots []int
	for _, p := range nodes {
		slots = append(slots, p.slot)
	}
	if live == nil || !slices.Equal(live.Members(), slots) || c != nil && live.Size() != 512 {
		t.Fatalf("%s: Live: %v of %d, want %v", when, live.Members(), live.Size(), slots)
	}
}

func checkNode(t *testing.T, when string, c *cluster.Cluster, m *model, name string) {
	t.Helper()
	want, there := m.nodes[name]
	if n, ok := c.Node(name); !sameNode(n, want.node) || ok != there {
		t.Fatalf("%s: Node(%q): %+v, %v, want %+v, %v", when, name, n, ok, want.node, there)
	}
	if slot, ok := c.Slot(name); slot != want.slot || ok != there {
		t.Fatalf("%s: Slot(%q): %d, %v, want %d, %v", when, name, slot, ok, want.slot, there)
	}
	if got := c.On(name); !slices.Equal(got, m.on(name)) {
		t.Fatalf("%s: On(%q): %q, want %q", when, name, got, m.on(name))
	}
	used, ok := c.Used(name)
	if !slices.Equal(used, m.used(name)) || ok != there {
		t.Fatalf("%s: Used(%q): %v, %v, want %v, %v", when, name, used, ok, m.used(name), there)
	}
	room, ok := c.Room(name)
	if !slices.Equal(room, m.room(name)) || ok != there {
		t.Fatalf("%s: Room(%q): %v, %v, want %v, %v", when, name, room, ok, m.room(name), there)
	}
	for _, i := range slices.Concat(used, room, want.node.Cap) {
		sum := new(big.Int).Add(amount(used, i.Name), amount(room, i.Name))
		if i.N <= 0 || sum.Cmp(amount(want.node.Cap, i.Name)) != 0 {
			t.Fatalf("%s: %q has of %q %v used and %v room, and the capacity %v", when, name, i.Name, used, room, want.node.Cap)
		}
	}
}

func checkPod(t *testing.T, when string, c *cluster.Cluster, m *model, name string) {
	t.Helper()
	want, there := m.pods[name]
	if p, node, ok := c.Pod(name); !samePod(p, want.pod) || node != want.node || ok != there {
		t.Fatalf("%s: Pod(%q): %+v, %q, %v, want %+v, %q, %v", when, name, p, node, ok, want.pod, want.node, there)
	}
	if slot, ok := c.PodSlot(name); slot != want.slot || ok != there {
		t.Fatalf("%s: PodSlot(%q): %d, %v, want %d, %v", when, name, slot, ok, want.slot, there)
	}
}

// checkAt holds NodeAt or PodAt against the slots that are taken: of those, of the ones beside them, and of odd ones.
func checkAt(t *testing.T, what string, at func(int) (string, bool), pairs []pair) {
	t.Helper()
	names := map[int]string{}
	asked := slices.Clone(oddInts)
	for _, p := range pairs {
		names[p.slot] = p.name
		asked = append(asked, p.slot-1, p.slot, p.slot+1)
	}
	for _, slot := range append(asked, 0, 1, 2) {
		want, there := names[slot]
		if name, ok := at(slot); name != want || ok != there {
			t.Fatalf("%s(%d): %q, %v, want %q, %v", what, slot, name, ok, want, there)
		}
	}
}
