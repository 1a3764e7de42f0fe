package index_test

import (
	"fmt"
	"math"
	"slices"
	"strconv"
	"strings"
	"testing"

	"berth/api"
)

// P10.2: the first and the last slots, and those at the edges of words, come, are set and go.
func TestEdges(t *testing.T) {
	b := made(t)
	nodes, pods := []int{0, 63, 64, api.MaxNodes - 1}, []int{0, 63, 64, api.MaxPods - 1}
	for i, slot := range nodes {
		b.does(nodeAdd(slot, api.Node{Name: "n" + strconv.Itoa(i), Labels: tags("rank", "3", "zone", []string{"x", "y"}[i%2]), Taints: marks("gpu", "", api.NoExecute), Cap: items("cpu", 4)}))
		b.check("a node more")
	}
	for i, slot := range pods {
		b.does(podAdd(slot, nodes[3-i], "p"+strconv.Itoa(i), tags("app", "web", "rank", "7")...))
		b.check("a pod more")
	}
	for i, slot := range nodes {
		b.does(nodeSet(slot, named("n"+strconv.Itoa(i), "disk", "x", "zone", "c")))
		b.check("set")
	}
	for i, slot := range pods {
		b.does(podDel(slot, nodes[3-i]))
		b.check("a pod less")
	}
	for _, slot := range nodes {
		b.does(nodeDel(slot))
		b.check("a node less")
	}
	same(t, "emptied", b.x, nil, true)
}

// P10.2: no change with a Slot that isn't from 0 to MaxNodes - 1 fits, of whatever kind, and none of pods with such a PodSlot.
func TestSlotsOutside(t *testing.T) {
	b := ordinary(t)
	for _, slot := range slices.Concat(oddInts, []int{1 << 9, 1<<16 + 1, 1<<32 + 1, 1<<63 - 64}) {
		for kind := api.ChangeKind(0); kind <= 6; kind++ {
			for _, podSlot := range []int{0, 5, api.MaxPods - 1} {
				ch := api.Change{Kind: kind, Slot: slot, PodSlot: podSlot, Now: named("new"), Pod: api.Pod{Name: "new"}}
				answers(t, "Slot", b.apply(ch), api.ErrChange)
				ch.Now.Name = "a"
				answers(t, "Slot with a node's name", b.apply(ch), api.ErrChange)
			}
		}
	}
	for _, slot := range slices.Concat(oddInts, []int{1 << 11, 1<<32 + 64}) {
		if slot < 0 || slot >= api.MaxPods {
			answers(t, "PodSlot", b.apply(podAdd(slot, 0, "new")), api.ErrChange)
			answers(t, "PodSlot", b.apply(podDel(slot, 0)), api.ErrChange)
		}
	}
	b.check("behind slots that are none")
}

// P10.2: a kind that is none fits nowhere.
func TestOtherKinds(t *testing.T) {
	b := ordinary(t)
	for _, kind := range []api.ChangeKind{0, 6, 7, -1, -5, 1 << 32, 1<<32 + 1, math.MinInt, math.MaxInt} {
		for _, slot := range []int{0, 5} {
			for _, podSlot := range []int{0, 5} {
				ch := api.Change{Kind: kind, Slot: slot, PodSlot: podSlot, Now: named("new"), Pod: api.Pod{Name: "new"}}
				answers(t, "a kind", b.apply(ch), api.ErrChange)
			}
		}
	}
	b.check("behind kinds that are none")
}

// P10.2: slots and names that a row has already, and changes of rows that aren't there.
func TestRowsThereOrNot(t *testing.T) {
	b := ordinary(t)
	b.refuses("a node's slot is taken", nodeAdd(0, named("new")))
	b.refuses("the last node's slot is taken", nodeAdd(api.MaxNodes-1, named("new")))
	b.refuses("a node's name is taken", nodeAdd(5, named("a")))
	b.refuses("a node's name and slot are taken", nodeAdd(0, named("a")))
	b.refuses("no node to go", nodeDel(5))
	b.refuses("no node to set", nodeSet(5, named("new")))
	b.refuses("no node of that slot to set", nodeSet(5, named("a")))
	b.refuses("no node for a pod", podAdd(5, 5, "new"))
	b.refuses("a pod's slot is taken", podAdd(0, 1, "new"))
	b.refuses("a pod's slot is taken on its own node", podAdd(0, 0, "new"))
	b.refuses("the last pod's slot is taken", podAdd(api.MaxPods-1, 0, "new"))
	b.refuses("a pod's name is taken", podAdd(5, 0, "q"))
	b.refuses("a pod's name is taken on its own node", podAdd(5, 2, "q"))
	b.refuses("no pod to go", podDel(5, 0))
	b.refuses("a pod on another node", podDel(0, 1))
	b.refuses("a pod on a node that isn't there", podDel(0, 5))
	b.does(podDel(0, 0))
	b.refuses("a pod that has gone", podDel(0, 0))
	b.does(nodeDel(api.MaxNodes - 1))
	b.refuses("a node that has gone", nodeDel(api.MaxNodes-1))
	b.refuses("a node that has gone is set", nodeSet(api.MaxNodes-1, named("e")))
	b.refuses("a pod on a node that has gone", podAdd(5, api.MaxNodes-1, "new"))
}

// P10.2: a name or a slot is free again when its row has gone; a node may have a pod's name.
func TestNamesFreeAgain(t *testing.T) {
	b := ordinary(t)
	b.does(nodeDel(api.MaxNodes - 1))
	b.does(nodeAdd(5, named("e", "zone", "y")))
	b.check("the name in another slot")
	b.does(nodeAdd(api.MaxNodes-1, named("f", "rank", "3")))
	b.check("another name in the slot")
	b.refuses("the name stands in slot 5", nodeAdd(6, named("e")))
	b.does(podDel(64, 1))
	b.does(podAdd(3, 0, "s", tags("zone", "x")...))
	b.check("a pod's name in another slot")
	b.does(podAdd(64, 0, "b", tags("app", "web")...))
	b.check("a pod with a node's name")
	b.does(nodeAdd(7, named("p")))
	b.check("a node with a pod's name")
	b.refuses("the pod's name stands in slot 3", podAdd(4, 0, "s"))
}

// wrongNodes are nodes that cluster.CheckNode refuses for one of their lists, or whose lists are not made.
func wrongNodes(name string) map[string]api.Node {
	long := slices.Repeat(marks("gpu", "", api.NoSchedule), api.MaxTaints+1)
	most := []api.Item{}
	for i := range api.MaxItems + 1 {
		most = append(most, api.Item{Name: "r" + strconv.Itoa(10+i), N: 1})
	}
	return map[string]api.Node{
		"no key":                    {Name: name, Labels: tags("", "x")},
		"a key that is none":        {Name: name, Labels: tags("_", "x")},
		"a value that is none":      {Name: name, Labels: tags("zone", "-")},
		"a key twice":               {Name: name, Labels: tags("zone", "x", "zone", "y")},
		"labels that fall":          {Name: name, Labels: tags("zone", "x", "app", "x")},
		"too many labels":           {Name: name, Labels: many(api.MaxLabels+1, "x")},
		"a taint without a key":     {Name: name, Taints: marks("", "", api.NoSchedule)},
		"a taint's value":           {Name: name, Taints: marks("gpu", "-", api.NoSchedule)},
		"an effect that is none":    {Name: name, Taints: marks("gpu", "", "")},
		"a taint twice":             {Name: name, Taints: marks("gpu", "x", api.NoSchedule, "gpu", "y", api.NoSchedule)},
		"taints that fall by key":   {Name: name, Taints: marks("gpu", "", api.NoSchedule, "disk", "", api.NoSchedule)},
		"taints that fall":          {Name: name, Taints: marks("gpu", "", api.NoSchedule, "gpu", "", api.NoExecute)},
		"too many taints":           {Name: name, Taints: long},
		"an amount of 0":            {Name: name, Cap: items("cpu", 0)},
		"an amount of 0 between":    {Name: name, Cap: items("cpu", 1, "disk", 0, "mem", 1)},
		"an amount below 0":         {Name: name, Cap: items("cpu", -1)},
		"a resource that is none":   {Name: name, Cap: items("CPU", 1)},
		"a resource twice":          {Name: name, Cap: items("cpu", 1, "cpu", 1)},
		"resources that fall":       {Name: name, Cap: items("mem", 1, "cpu", 1)},
		"too many resources":        {Name: name, Cap: most},
		"all right but the last":    {Name: name, Labels: tags("app", "x", "zone", "y"), Taints: marks("gpu", "", api.NoExecute), Cap: items("cpu", 4, "mem", -8)},
		"all right but the taints":  {Name: name, Labels: tags("app", "x", "zone", "y"), Taints: marks("gpu", "", "no"), Cap: items("cpu", 4)},
		"all right but the labels":  {Name: name, Labels: tags("zone", "x", "zone", "y"), Taints: marks("gpu", "", api.NoExecute), Cap: items("cpu", 4)},
		"many of many wrong labels": {Name: name, Labels: slices.Repeat(tags("", ""), 40)},
	}
}

// wrongNames are texts that are no name.
var wrongNames = []string{"", "_", "A", "-a", "a-", "a b", "é", "a\x00", strings.Repeat("n", api.MaxName+1)}

// P10.2: a node that cluster.CheckNode refuses, or whose lists are not made, neither comes nor is set.
func TestWrongNodes(t *testing.T) {
	b := ordinary(t)
	for what, n := range wrongNodes("new") {
		b.refuses("a node with "+what, nodeAdd(5, n))
	}
	for what, n := range wrongNodes("a") {
		b.refuses("a node set to "+what, nodeSet(0, n))
	}
	for _, name := range wrongNames {
		b.refuses(fmt.Sprintf("a node with the name %.10q", name), nodeAdd(5, named(name)))
		b.refuses(fmt.Sprintf("a node set to the name %.10q", name), nodeSet(0, named(name)))
	}
	for _, n := range []api.Node{{}, {Labels: many(api.MaxLabels, "x")}, {Name: strings.Repeat("n", api.MaxName)}, {Labels: []api.Label{}, Taints: []api.Taint{}, Cap: []api.Item{}}} {
		if n.Name == "" {
			n.Name = "new"
		}
		b.does(nodeAdd(5, n))
		b.does(nodeSet(5, n))
		b.check("a node that may be")
		b.does(nodeDel(5))
	}
}

// P10.2: ChangeNodeSet with another name doesn't fit, be it a new one, another row's or none at all.
func TestSetNamesTheRow(t *testing.T) {
	b := ordinary(t)
	for _, name := range []string{"new", "b", "p", "", "A", "aa"} {
		b.refuses("set as "+name, nodeSet(0, named(name, "zone", "y")))
	}
	b.does(nodeSet(0, named("a", "zone", "y")))
	b.check("set by its own name")
}

// P10.2: a pod with a wrong name, or with labels that are no label list.
func TestWrongPods(t *testing.T) {
	b := ordinary(t)
	for _, name := range wrongNames {
		b.refuses(fmt.Sprintf("a pod with the name %.10q", name), podAdd(5, 0, name))
	}
	for what, n := range wrongNodes("new") {
		if n.Taints == nil && n.Cap == nil { // then its labels are what is wrong
			b.refuses("a pod with "+what, podAdd(5, 0, "new", n.Labels...))
		}
	}
	for _, list := range [][]api.Label{many(api.MaxLabels, "x"), nil, {}, tags("A", "", "a", "-5", "example.org/a", "x")} {
		b.does(podAdd(5, 0, strings.Repeat("p", api.MaxName), list...))
		b.check("a pod that may be")
		b.does(podDel(5, 0))
	}
}

// P10.2: a node on which a pod stands doesn't go, whatever it is set to; it goes behind its last pod, and may come again without them.
func TestNodeWithPods(t *testing.T) {
	b := made(t)
	b.does(nodeAdd(4, named("a", "zone", "x")))
	b.does(nodeAdd(5, named("b")))
	b.does(podAdd(0, 4, "p", tags("app", "web")...))
	b.does(podAdd(api.MaxPods-1, 4, "q"))
	b.does(podAdd(9, 5, "r", tags("app", "web")...))
	b.refuses("two pods", nodeDel(4))
	b.refuses("a pod on a node without labels", nodeDel(5))
	b.does(podDel(0, 4))
	b.refuses("the last slot's pod", nodeDel(4))
	b.does(nodeSet(4, named("a", "zone", "y")))
	b.refuses("set in between", nodeDel(4))
	b.does(nodeSet(4, named("a")))
	b.refuses("without labels", nodeDel(4))
	b.does(podDel(api.MaxPods-1, 4))
	b.does(nodeDel(4))
	b.check("gone")
	b.does(nodeAdd(4, named("a", "zone", "x")))
	b.check("come again")
	is(t, "Near", b.x.Near("zone", b.x.Live(api.OfIt)), api.MaxNodes, nil)
}

// P10.2: ChangeNodeSet changes labels, taints, capacities and Cordoned, each alone and all together, with pods on the node.
func TestNodeSet(t *testing.T) {
	b := ordinary(t)
	n := cloned(b.m.nodes[0])
	for i, change := range []func(){
		func() { n.Labels = tags("disk", "ssd", "rank", "3", "zone", "y") },
		func() { n.Labels = tags("disk", "ssd", "rank", "x", "zone", "y") },
		func() { n.Labels = tags("app", "web", "rank", "7") },
		func() { n.Labels = tags("rank", "-5") },
		func() { n.Taints = marks("disk", "x", api.NoExecute, "gpu", "x", api.NoSchedule) },
		func() { n.Taints = marks("gpu", "x", api.NoExecute) },
		func() { n.Taints = nil },
		func() {
			n.Taints = marks("gpu", "", api.NoExecute, "gpu", "x", api.NoSchedule, "gpu", "x", api.PreferNoSchedule)
		},
		func() { n.Cap = items("cpu", 8, "mem", 8) },
		func() { n.Cap = items("example/gpu", 1, "mem", 8) },
		func() { n.Cap = nil },
		func() { n.Cap = items("cpu", api.MaxAmount) },
		func() { n.Cordoned = true },
		func() { n.Cordoned = true },
		func() { n.Cordoned = false },
		func() {},
		func() { n = named("a") },
		func() {
			n = api.Node{Name: "a", Labels: tags("rank", "3", "zone", "x"), Taints: marks("disk", "", api.NoSchedule), Cap: items("mem", 4), Cordoned: true}
		},
	} {
		change()
		b.does(nodeSet(0, n))
		b.check(fmt.Sprint("set ", i))
	}
	is(t, "Near", b.x.Near("zone", set(t, 1, 0)), api.MaxNodes, []int{0, 2})
}

// P10.2: what the table doesn't name isn't looked at: a change full of wrong things elsewhere fits, and does the same.
func TestNotLookedAt(t *testing.T) {
	wrong := tags("zone", "q", "zone", "q", "", "")
	bad := api.Node{Name: "_", Labels: wrong, Taints: marks("", "", ""), Cap: items("", -1), Cordoned: true}
	worse := api.Pod{Name: "_", Labels: wrong, Needs: items("?", -1), Tolerations: []api.Toleration{{}}, Require: "(", Apart: []api.Apart{{}}, Prefer: []api.Prefer{{Weight: -1}}, Priority: math.MinInt}
	other := api.Node{Name: "a", Labels: tags("rank", "7"), Taints: marks("gpu", "", api.NoExecute), Cap: items("cpu", 3)}
	p := worse
	p.Name, p.Labels = "p", tags("app", "web")
	a := api.Node{Name: "a", Labels: tags("rank", "3", "zone", "x"), Taints: marks("gpu", "", api.NoSchedule), Cap: items("cpu", 4)}
	plain, odd := made(t), made(t)
	for _, c := range []struct{ plain, odd api.Change }{
		{nodeAdd(0, a), api.Change{Kind: api.ChangeNodeAdd, PodSlot: -99, Was: bad, Now: a, Pod: worse}},
		{nodeAdd(2, named("b")), api.Change{Kind: api.ChangeNodeAdd, Slot: 2, PodSlot: math.MaxInt, Was: other, Now: named("b"), Pod: worse}},
		{podAdd(0, 0, "p", tags("app", "web")...), api.Change{Kind: api.ChangePodAdd, Was: bad, Now: bad, Pod: p}},
		{podAdd(1, 2, "q"), api.Change{Kind: api.ChangePodAdd, Slot: 2, PodSlot: 1, Was: other, Now: other, Pod: api.Pod{Name: "q", Priority: 9}}},
		{nodeSet(0, other), api.Change{Kind: api.ChangeNodeSet, PodSlot: 0, Was: bad, Now: other, Pod: worse}},
		{nodeSet(0, a), api.Change{Kind: api.ChangeNodeSet, PodSlot: api.MaxPods, Was: a, Now: a, Pod: p}},
		{nodeSet(0, other), api.Change{Kind: api.ChangeNodeSet, PodSlot: 1, Was: named("b", "zone", "y"), Now: other, Pod: p}},
		{podDel(1, 2), api.Change{Kind: api.ChangePodDel, Slot: 2, PodSlot: 1, Was: bad, Now: bad, Pod: worse}},
		{nodeDel(2), api.Change{Kind: api.ChangeNodeDel, Slot: 2, PodSlot: 0, Was: other, Now: bad, Pod: worse}},
		{podDel(0, 0), api.Change{Kind: api.ChangePodDel, Was: other, Now: named("c"), Pod: api.Pod{Name: "q", Labels: tags("app", "db")}}},
		{nodeDel(0), api.Change{Kind: api.ChangeNodeDel, PodSlot: math.MinInt, Was: named("b"), Now: other, Pod: p}},
	} {
		plain.does(c.plain)
		odd.does(c.odd)
		same(t, "plain and odd", plain.x, odd.x, true)
		odd.check("behind an odd change")
	}
}

// P10.2, P10.5 to P10.9: with the last row that has it, a label, a number, a capacity or a taint is found no more; the others' stay.
func TestLastOnesGo(t *testing.T) {
	b := made(t)
	full := func(name string) api.Node {
		return api.Node{Name: name, Labels: tags("rank", "3", "zone", "x"), Taints: marks("gpu", "x", api.NoSchedule), Cap: items("cpu", 4)}
	}
	b.does(nodeAdd(0, full("a")))
	b.does(nodeAdd(1, full("b")))
	b.does(podAdd(0, 0, "p", tags("app", "web", "rank", "3")...))
	b.does(podAdd(1, 0, "q", tags("app", "web", "rank", "3")...))
	b.check("two of each")
	b.does(nodeSet(0, named("a")))
	b.does(podDel(0, 0))
	b.check("one of each")
	is(t, "Label", b.x.Label(api.OfNode, "zone", []string{"x"}), api.MaxNodes, []int{1})
	is(t, "Tainted", b.x.Tainted([]string{"gpu"}), api.MaxNodes, []int{1})
	is(t, "Label", b.x.Label(api.OfIt, "app", []string{"web"}), api.MaxPods, []int{1})
	b.does(nodeDel(1))
	b.does(podDel(1, 0))
	b.check("none")
	is(t, "Has", b.x.Has(api.OfNode, []string{"zone", "rank"}), api.MaxNodes, nil)
	is(t, "Number", b.x.Number(api.OfIt, "rank", api.CmpGe, 0), api.MaxPods, nil)
	is(t, "Cap", b.x.Cap("cpu", api.CmpGt, 0), api.MaxNodes, nil)
	is(t, "Tainted", b.x.Tainted([]string{"gpu"}), api.MaxNodes, nil)
	is(t, "Tolerated", b.x.Tolerated(nil, api.NoSchedule), api.MaxNodes, []int{0})
	is(t, "Near", b.x.Near("zone", set(t, 2, 0, 1)), api.MaxNodes, nil)
}
