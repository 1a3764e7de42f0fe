package cluster_test

import (
	"slices"
	"strconv"
	"testing"

	"berth/api"
	"berth/cluster"
)

// is holds an answer to the fault that the chapter names; nil is none.
func is(t *testing.T, what string, ch api.Change, err error, want *api.Fault) {
	t.Helper()
	if !sameFault(err, want) {
		t.Errorf("%s: %v, want %v", what, err, want)
	}
	if want != nil && !sameChange(ch, api.Change{}) {
		t.Errorf("%s is refused, and answers %+v", what, ch)
	}
}

// P6.3, P6.4, P6.11, P6.13: the chapter's first example.
func TestExampleSlots(t *testing.T) {
	b := made(t)
	for i, n := range []api.Node{node("b", "cpu", 4), node("a")} {
		ch, err := b.add(n)
		if err != nil || !sameChange(ch, api.Change{Kind: api.ChangeNodeAdd, Slot: i, PodSlot: -1, Now: n}) {
			t.Errorf("Add %s: %+v, %v", n.Name, ch, err)
		}
	}
	ch, err := b.remove("b")
	if err != nil || !sameChange(ch, api.Change{Kind: api.ChangeNodeDel, Slot: 0, PodSlot: -1, Was: node("b", "cpu", 4)}) {
		t.Errorf("Remove b: %+v, %v", ch, err)
	}
	if ch, err := b.add(node("c")); err != nil || ch.Slot != 0 {
		t.Errorf("Add c: %+v, %v", ch, err)
	}
	if got := b.c.Nodes(); !slices.Equal(got, []string{"a", "c"}) {
		t.Errorf("Nodes: %q", got)
	}
	if got := walked(b.c.Slots()); !slices.Equal(got, []pair{{0, "c"}, {1, "a"}}) {
		t.Errorf("Slots: %v", got)
	}
	if got := b.c.Live(); !slices.Equal(got.Members(), []int{0, 1}) || got.Size() != 512 {
		t.Errorf("Live: %v of %d", got.Members(), got.Size())
	}
	b.check("the first example")
}

// P6.1, P6.3: the second.
func TestExampleFaults(t *testing.T) {
	b := made(t)
	ch, err := b.add(node("B"))
	is(t, "Add of B", ch, err, wrong(api.ErrName, "B"))
	ch, err = b.add(api.Node{Name: "b", Labels: tags("zone", "a", "zone", "b")})
	is(t, "Add with zone twice", ch, err, wrong(api.ErrKeyDup, "zone"))
	b.check("the second example")
}

// P6.4, P6.8 to P6.10, P6.14: the third.
func TestExampleRoom(t *testing.T) {
	b := made(t)
	b.add(node("b", "cpu", 4))
	ch, err := b.bind(pod("p", "cpu", 3), "b")
	want := api.Change{Kind: api.ChangePodAdd, Slot: 0, PodSlot: 0, Was: node("b", "cpu", 4), Now: node("b", "cpu", 4), Pod: pod("p", "cpu", 3)}
	if err != nil || !sameChange(ch, want) {
		t.Errorf("Bind p: %+v, %v, want %+v", ch, err, want)
	}
	if room, ok := b.c.Room("b"); !ok || !slices.Equal(room, cpu(1)) {
		t.Errorf("Room: %v, %v", room, ok)
	}
	if used, ok := b.c.Used("b"); !ok || !slices.Equal(used, cpu(3)) {
		t.Errorf("Used: %v, %v", used, ok)
	}
	ch, err = b.bind(pod("q", "cpu", 2), "b")
	is(t, "Bind q, cpu 2", ch, err, wrong(api.ErrNoRoom, "cpu"))
	ch, err = b.bind(pod("q", "gpu", 1), "b")
	is(t, "Bind q, gpu 1", ch, err, wrong(api.ErrNoRoom, "gpu"))
	ch, err = b.resize("b", cpu(2))
	is(t, "Resize to cpu 2", ch, err, wrong(api.ErrBelow, "cpu"))
	ch, err = b.remove("b")
	is(t, "Remove b", ch, err, wrong(api.ErrNodeBusy, "b"))
	b.check("refused")
	want.Kind = api.ChangePodDel
	if ch, err = b.unbind("p"); err != nil || !sameChange(ch, want) {
		t.Errorf("Unbind p: %+v, %v, want %+v", ch, err, want)
	}
	if used, ok := b.c.Used("b"); !ok || len(used) != 0 {
		t.Errorf("Used behind Unbind: %v, %v", used, ok)
	}
	if ch, err = b.bind(pod("q", "cpu", 2), "b"); err != nil || ch.PodSlot != 0 {
		t.Errorf("Bind q: %+v, %v", ch, err)
	}
	b.check("the third example")
}

// P6.5: the fourth.
func TestExampleLabels(t *testing.T) {
	b := made(t)
	b.add(node("b", "cpu", 4))
	now := node("b", "cpu", 4)
	now.Labels = tags("zone", "x")
	for i, was := range []api.Node{node("b", "cpu", 4), now} {
		ch, err := b.label("b", "zone", "x")
		if err != nil || !sameChange(ch, api.Change{Kind: api.ChangeNodeSet, PodSlot: -1, Was: was, Now: now}) {
			t.Errorf("Label for the time %d: %+v, %v", i, ch, err)
		}
	}
	ch, err := b.unlabel("b", "disk")
	is(t, "Unlabel disk", ch, err, wrong(api.ErrNoTarget, "disk"))
	b.check("the fourth example")
}

// P6.3 to P6.10, R7: a nil cluster refuses every change with ErrNil, whatever the arguments are.
func TestNilClusterChanges(t *testing.T) {
	var none *cluster.Cluster
	want := wrong(api.ErrNil, "")
	for _, name := range slices.Concat(badNames, goodNames) {
		for what, call := range map[string]func() (api.Change, error){
			"Add":       func() (api.Change, error) { return none.Add(api.Node{Name: name}) },
			"Add full":  func() (api.Change, error) { return none.Add(fullNode(name)) },
			"Add wrong": func() (api.Change, error) { return none.Add(api.Node{Name: name, Labels: manyTags(33)}) },
			"Remove":    func() (api.Change, error) { return none.Remove(name) },
			"Label":     func() (api.Change, error) { return none.Label(name, name, name) },
			"Unlabel":   func() (api.Change, error) { return none.Unlabel(name, name) },
			"Taint":     func() (api.Change, error) { return none.Taint(name, mark(name, name, name)) },
			"Untaint":   func() (api.Change, error) { return none.Untaint(name, name, name) },
			"Cordon":    func() (api.Change, error) { return none.Cordon(name, true) },
			"Uncordon":  func() (api.Change, error) { return none.Cordon(name, false) },
			"Resize":    func() (api.Change, error) { return none.Resize(name, items(name, -1)) },
			"Bind":      func() (api.Change, error) { return none.Bind(fullPod(name), name) },
			"Bind bare": func() (api.Change, error) { return none.Bind(api.Pod{}, name) },
			"Unbind":    func() (api.Change, error) { return none.Unbind(name) },
		} {
			ch, err := call()
			is(t, what, ch, err, want)
		}
	}
	check(t, "a nil cluster", none, newModel())
}

// P6.4 to P6.8, P6.10: who isn't there: any text as a name, ahead of what else is wrong.
func TestNoNode(t *testing.T) {
	b := made(t)
	b.add(fullNode("n"))
	b.bind(fullPod("p"), "n")
	for _, name := range slices.Concat(badNames, goodNames, []string{"p", "n0", "N"}) {
		want := wrong(api.ErrNoNode, name)
		ch, err := b.remove(name)
		is(t, "Remove", ch, err, want)
		ch, err = b.label(name, "", "_")
		is(t, "Label", ch, err, want)
		ch, err = b.unlabel(name, "none")
		is(t, "Unlabel", ch, err, want)
		ch, err = b.taint(name, api.Taint{})
		is(t, "Taint", ch, err, want)
		ch, err = b.untaint(name, "none", "")
		is(t, "Untaint", ch, err, want)
		ch, err = b.cordon(name, true)
		is(t, "Cordon", ch, err, want)
		ch, err = b.resize(name, manyItems(17, -1))
		is(t, "Resize", ch, err, want)
		ch, err = b.bind(fullPod("p"), name)
		is(t, "Bind", ch, err, want)
		if name != "p" {
			ch, err = b.unbind(name)
			is(t, "Unbind", ch, err, wrong(api.ErrNoPod, name))
		}
	}
	b.check("names that aren't there")
}

// P6.3: MaxNodes nodes and one more: taken ahead of full, a node's own fault ahead of both.
func TestMostNodes(t *testing.T) {
	b := made(t)
	for i := range 512 {
		if ch, err := b.add(node(nth(i), "cpu", i)); err != nil || ch.Slot != i {
			t.Fatalf("Add of the node %d: %+v, %v", i, ch, err)
		}
	}
	ch, err := b.add(node("more"))
	is(t, "Add of one more", ch, err, wrong(api.ErrNodeFull, "more"))
	ch, err = b.add(node("n511"))
	is(t, "Add of one that is there", ch, err, wrong(api.ErrNodeTaken, "n511"))
	ch, err = b.add(node("More"))
	is(t, "Add of no name", ch, err, wrong(api.ErrName, "More"))
	ch, err = b.add(node("n511", "cpu", -1))
	is(t, "Add of one that is there, with a fault", ch, err, wrong(api.ErrQuantZero, "cpu"))
	b.check("full")
	for _, i := range []int{511, 64, 0} {
		if ch, err := b.remove(nth(i)); err != nil || ch.Slot != i {
			t.Errorf("Remove of the node %d: %+v, %v", i, ch, err)
		}
	}
	for _, i := range []int{0, 64, 511} {
		if ch, err := b.add(node("new" + strconv.Itoa(i))); err != nil || ch.Slot != i {
			t.Errorf("Add into the slot %d: %+v, %v", i, ch, err)
		}
	}
	ch, err = b.add(node("more"))
	is(t, "Add of one more", ch, err, wrong(api.ErrNodeFull, "more"))
	b.check("full again")
}

// P6.3: a node that is there is neither added again nor changed by that; one that was removed comes back with nothing of what it had.
func TestAddAgain(t *testing.T) {
	b := made(t)
	b.add(fullNode("n"))
	b.bind(fullPod("p"), "n")
	ch, err := b.add(node("n"))
	is(t, "Add again", ch, err, wrong(api.ErrNodeTaken, "n"))
	b.check("added again")
	b.unbind("p")
	b.remove("n")
	b.check("removed")
	b.add(node("n", "cpu", 1))
	if used, ok := b.c.Used("n"); len(used) != 0 || !ok {
		t.Errorf("Used of a node that is new: %v, %v", used, ok)
	}
	b.check("there again")
}

// P6.4: a node with pods isn't removed, whether they need something or nothing; behind the last one's going it is.
func TestRemoveBusy(t *testing.T) {
	b := made(t)
	b.add(node("a"))
	b.add(node("b", "cpu", 1))
	b.bind(pod("p"), "b")
	b.bind(pod("q", "cpu", 1), "b")
	for _, pod := range []string{"q", "p"} {
		ch, err := b.remove("b")
		is(t, "Remove of b", ch, err, wrong(api.ErrNodeBusy, "b"))
		b.check("refused")
		b.unbind(pod)
	}
	if ch, err := b.remove("b"); err != nil || ch.Slot != 1 {
		t.Errorf("Remove of b: %+v, %v", ch, err)
	}
	if ch, err := b.remove("a"); err != nil || ch.Slot != 0 {
		t.Errorf("Remove of a: %+v, %v", ch, err)
	}
	b.check("removed")
}

// P6.5: labels: a new one, another value, one less; each fault; MaxLabels labels and one more.
func TestLabels(t *testing.T) {
	b := made(t)
	b.add(node("other"))
	b.add(fullNode("n"))
	for _, c := range []struct {
		key, value string
		want       *api.Fault
	}{
		{"", "", wrong(api.ErrKey, "")},
		{"a/b/c", "_", wrong(api.ErrKey, "a/b/c")},
		{"zone", "_", wrong(api.ErrValue, "zone")},
		{"new", "-", wrong(api.ErrValue, "new")},
		{"zone", "x", nil},
		{"zone", "", nil},
		{"zone", "-5", nil},
		{"b", "1", nil},
		{"example.org/zone", "y", nil},
		{"Z", "1", nil},
	} {
		ch, err := b.label("n", c.key, c.value)
		is(t, "Label "+c.key+" "+c.value, ch, err, c.want)
		b.check("Label " + c.key + " " + c.value)
	}
	if n, _ := b.c.Node("n"); !slices.Equal(n.Labels, tags("Z", "1", "app", "", "b", "1", "disk", "ssd", "example.org/zone", "y", "zone", "-5")) {
		t.Errorf("the labels: %v", n.Labels)
	}
	for _, key := range []string{"", "none", "zon", "zonee", "Zone", "ssd"} {
		ch, err := b.unlabel("n", key)
		is(t, "Unlabel "+key, ch, err, wrong(api.ErrNoTarget, key))
	}
	for _, key := range []string{"zone", "Z", "app", "disk", "b", "example.org/zone"} {
		ch, err := b.unlabel("n", key)
		is(t, "Unlabel "+key, ch, err, nil)
		b.check("Unlabel " + key)
		ch, err = b.unlabel("n", key)
		is(t, "Unlabel "+key+" again", ch, err, wrong(api.ErrNoTarget, key))
	}
	for i := range 32 {
		ch, err := b.label("n", "k"+strconv.Itoa(i), "")
		is(t, "Label", ch, err, nil)
	}
	ch, err := b.label("n", "more", "")
	is(t, "Label with one more", ch, err, wrong(api.ErrLabels, "more"))
	ch, err = b.label("n", "more", "_")
	is(t, "Label with one more and no value", ch, err, wrong(api.ErrValue, "more"))
	ch, err = b.label("n", "k31", "v")
	is(t, "Label with one that is there", ch, err, nil)
	b.check("as many as may be")
}

// P6.6: taints: a new one, another value, one less; each fault; MaxTaints taints and one more; bound pods stay.
func TestTaints(t *testing.T) {
	b := made(t)
	b.add(node("other"))
	b.add(fullNode("n"))
	b.bind(pod("p"), "n")
	for _, c := range []struct {
		t    api.Taint
		want *api.Fault
	}{
		{mark("", "_", ""), wrong(api.ErrTaintKey, "")},
		{mark("a/b/c", "", api.NoExecute), wrong(api.ErrTaintKey, "a/b/c")},
		{mark("gpu", "_", "Never"), wrong(api.ErrTaintValue, "gpu")},
		{mark("gpu", "", "Never"), wrong(api.ErrEffect, "gpu")},
		{mark("gpu", "", ""), wrong(api.ErrEffect, "gpu")},
		{mark("gpu", "", api.NoSchedule), nil},
		{mark("gpu", "b", api.NoSchedule), nil},
		{mark("gpu", "b", api.PreferNoSchedule), nil},
		{mark("a", "", api.NoExecute), nil},
	} {
		ch, err := b.taint("n", c.t)
		is(t, "Taint "+c.t.Key+" "+c.t.Value+" "+c.t.Effect, ch, err, c.want)
		b.check("Taint " + c.t.Key)
	}
	n, _ := b.c.Node("n")
	if want := []api.Taint{mark("a", "", api.NoExecute), mark("disk", "b", api.PreferNoSchedule), mark("gpu", "a", api.NoExecute),
		mark("gpu", "b", api.NoSchedule), mark("gpu", "b", api.PreferNoSchedule)}; !slices.Equal(n.Taints, want) {
		t.Errorf("the taints: %v", n.Taints)
	}
	for _, c := range [][2]string{{"", ""}, {"none", api.NoSchedule}, {"disk", api.NoSchedule}, {"gpu", ""}, {"gpu", "noschedule"}, {"a", api.NoSchedule}, {"gp", api.NoSchedule}} {
		ch, err := b.untaint("n", c[0], c[1])
		is(t, "Untaint "+c[0]+" "+c[1], ch, err, wrong(api.ErrNoTarget, c[0]))
	}
	for _, was := range n.Taints {
		ch, err := b.untaint("n", was.Key, was.Effect)
		is(t, "Untaint "+was.Key+" "+was.Effect, ch, err, nil)
		b.check("Untaint " + was.Key)
	}
	for i := range 16 {
		ch, err := b.taint("n", mark("k"+strconv.Itoa(i), "", api.NoExecute))
		is(t, "Taint", ch, err, nil)
	}
	ch, err := b.taint("n", mark("k15", "", api.NoSchedule))
	is(t, "Taint with one more", ch, err, wrong(api.ErrTaints, "k15"))
	ch, err = b.taint("n", mark("more", "", "Never"))
	is(t, "Taint with one more and no effect", ch, err, wrong(api.ErrEffect, "more"))
	ch, err = b.taint("n", mark("k15", "v", api.NoExecute))
	is(t, "Taint with one that is there", ch, err, nil)
	b.check("as many as may be")
}

// P6.7: cordoned and open again; the pods stay, and new ones may be bound by this layer's word.
func TestCordon(t *testing.T) {
	b := made(t)
	b.add(fullNode("n"))
	b.add(node("m", "cpu", 9))
	b.bind(pod("p", "cpu", 1), "m")
	for _, on := range []bool{true, true, false, false, true} {
		for _, name := range []string{"n", "m"} {
			ch, err := b.cordon(name, on)
			is(t, "Cordon", ch, err, nil)
			if ch.Now.Cordoned != on {
				t.Errorf("Cordon(%q, %v): %+v", name, on, ch)
			}
		}
		b.check("Cordon")
	}
	b.taint("m", mark("gpu", "", api.NoExecute))
	ch, err := b.bind(pod("q", "cpu", 1), "m")
	is(t, "Bind to a node that is cordoned and tainted", ch, err, nil)
	b.check("bound")
}

// P6.4 to P6.8: a call that sets what is there already is accepted: its Was is its Now.
func TestSetAgain(t *testing.T) {
	b := made(t)
	for _, n := range []api.Node{node("bare"), fullNode("full")} {
		b.add(n)
		calls := map[string]func() (api.Change, error){
			"Label":  func() (api.Change, error) { return b.label(n.Name, "zone", "x") },
			"Taint":  func() (api.Change, error) { return b.taint(n.Name, mark("gpu", "", api.NoSchedule)) },
			"Cordon": func() (api.Change, error) { return b.cordon(n.Name, n.Cordoned) },
			"Resize": func() (api.Change, error) { return b.resize(n.Name, n.Cap) },
		}
		for what, call := range calls {
			call()
			ch, err := call()
			is(t, what, ch, err, nil)
			if ch.Kind != api.ChangeNodeSet || ch.PodSlot != -1 || ch.Was.Name != n.Name || !sameNode(ch.Was, ch.Now) {
				t.Errorf("%s again: %+v", what, ch)
			}
			b.check(what + " again")
		}
	}
}

// P6.9: MaxPods pods and one more; of several faults the first.
func TestMostPods(t *testing.T) {
	b := made(t)
	b.add(node("a", "cpu", 2047))
	b.add(node("b"))
	for i := range 2048 {
		to, p := "a", pod(pth(i), "cpu", 1)
		if i == 77 {
			to, p = "b", pod(pth(i))
		}
		if ch, err := b.bind(p, to); err != nil || ch.PodSlot != i {
			t.Fatalf("Bind of the pod %d: %+v, %v", i, ch, err)
		}
	}
	b.check("full")
	for _, c := range []struct {
		what string
		p    api.Pod
		node string
		want *api.Fault
	}{
		{"with a fault of its own", pod("p0", "cpu", -1), "none", wrong(api.ErrQuantZero, "cpu")},
		{"to no node", pod("p0", "gpu", 1), "none", wrong(api.ErrNoNode, "none")},
		{"that is bound", pod("p0", "gpu", 1), "a", wrong(api.ErrPodTaken, "p0")},
		{"that is bound to another node", pod("p77"), "a", wrong(api.ErrPodTaken, "p77")},
		{"one too many", pod("more", "gpu", 1), "a", wrong(api.ErrPodFull, "more")},
		{"one too many, to another node", pod("more"), "b", wrong(api.ErrPodFull, "more")},
	} {
		ch, err := b.bind(c.p, c.node)
		is(t, "Bind of a pod "+c.what, ch, err, c.want)
	}
	b.check("refused")
	for _, i := range []int{2047, 77, 0} {
		if ch, err := b.unbind(pth(i)); err != nil || ch.PodSlot != i {
			t.Errorf("Unbind of the pod %d: %+v, %v", i, ch, err)
		}
	}
	ch, err := b.bind(pod("more", "cpu", 3), "a")
	is(t, "Bind without room", ch, err, wrong(api.ErrNoRoom, "cpu"))
	for _, i := range []int{0, 77, 2047} {
		if ch, err := b.bind(pod("new"+strconv.Itoa(i)), "b"); err != nil || ch.PodSlot != i || ch.Slot != 1 {
			t.Errorf("Bind into the slot %d: %+v, %v", i, ch, err)
		}
	}
	b.check("full again")
}

// P6.9, P6.10: a pod is bound with all that it has, to one node at a time; one name may be a node's and a pod's.
func TestBindAndUnbind(t *testing.T) {
	b := made(t)
	b.add(fullNode("n"))
	b.add(fullNode("m"))
	for _, p := range []api.Pod{fullPod("n"), fullPod("p"), pod("bare"), pod("m", "cpu", 0)} {
		ch, err := b.bind(p, "m")
		is(t, "Bind of "+p.Name, ch, err, nil)
		b.check("Bind of " + p.Name)
		for _, to := range []string{"n", "m"} {
			ch, err = b.bind(p, to)
			is(t, "Bind again", ch, err, wrong(api.ErrPodTaken, p.Name))
		}
	}
	if got := b.c.On("m"); !slices.Equal(got, []string{"bare", "m", "n", "p"}) {
		t.Errorf("On: %q", got)
	}
	for _, name := range []string{"n", "bare", "p", "m"} {
		ch, err := b.unbind(name)
		is(t, "Unbind of "+name, ch, err, nil)
		b.check("Unbind of " + name)
		ch, err = b.unbind(name)
		is(t, "Unbind again", ch, err, wrong(api.ErrNoPod, name))
		ch, err = b.bind(fullPod(name), "n")
		is(t, "Bind elsewhere", ch, err, nil)
	}
	b.check("moved")
}

// P6.3 to P6.10: two clusters know nothing of each other.
func TestTwoClusters(t *testing.T) {
	a, b := made(t), made(t)
	a.add(fullNode("n"))
	b.check("a second cluster")
	b.add(node("n", "cpu", 1))
	a.bind(fullPod("p"), "n")
	b.check("a second cluster")
	b.label("n", "zone", "y")
	b.bind(pod("p", "cpu", 1), "n")
	a.unbind("p")
	a.check("the first cluster")
	b.check("the second cluster")
}
