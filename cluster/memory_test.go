package cluster_test

import (
	"reflect"
	"slices"
	"testing"

	"berth/api"
	"berth/bitset"
	"berth/cluster"
)

// lists is every list in a node, a pod, a change or a list itself, each with its spare room.
func lists(v reflect.Value) []reflect.Value {
	switch v.Kind() {
	case reflect.Slice:
		if v.Cap() == 0 {
			return nil
		}
		return []reflect.Value{v.Slice(0, v.Cap())}
	case reflect.Struct:
		var all []reflect.Value
		for i := range v.NumField() {
			all = append(all, lists(v.Field(i))...)
		}
		return all
	}
	return nil
}

// overwrite writes into every list of the things, spare room included.
func overwrite(things ...any) {
	for _, thing := range things {
		for _, list := range lists(reflect.ValueOf(thing)) {
			for i := range list.Len() {
				spoil(list.Index(i))
			}
		}
	}
}

func spoil(v reflect.Value) {
	switch v.Kind() {
	case reflect.String:
		v.SetString("over")
	case reflect.Int:
		v.SetInt(-7)
	case reflect.Struct:
		for i := range v.NumField() {
			spoil(v.Field(i))
		}
	}
}

// memory is every list that was handed in or answered so far; they are kept, so that none's place is given to another.
type memory struct {
	t    *testing.T
	kept []reflect.Value
}

// apart holds the lists of the things to sharing no byte with each other or with any before them.
func (m *memory) apart(what string, things ...any) {
	m.t.Helper()
	for _, thing := range things {
		for _, list := range lists(reflect.ValueOf(thing)) {
			from := list.Pointer()
			to := from + uintptr(list.Len())*list.Type().Elem().Size()
			for _, other := range m.kept {
				begin := other.Pointer()
				end := begin + uintptr(other.Len())*other.Type().Elem().Size()
				if from < end && begin < to {
					m.t.Errorf("%s: a list of %s shares memory with a list of %s", what, list.Type(), other.Type())
				}
			}
			m.kept = append(m.kept, list)
		}
	}
}

// roomy is the list with spare room behind it that is filled.
func roomy[T any](list []T) []T {
	whole := append(slices.Clone(list), make([]T, 3)...)
	for i := range 3 {
		spoil(reflect.ValueOf(&whole[len(list)+i]).Elem())
	}
	return whole[:len(list):len(whole)]
}

func roomyNode(n api.Node) api.Node {
	n.Labels, n.Taints, n.Cap = roomy(n.Labels), roomy(n.Taints), roomy(n.Cap)
	return n
}

func roomyPod(p api.Pod) api.Pod {
	p.Labels, p.Needs, p.Tolerations = roomy(p.Labels), roomy(p.Needs), roomy(p.Tolerations)
	p.Apart, p.Prefer = roomy(p.Apart), roomy(p.Prefer)
	return p
}

// untouched: has a thing, spare room included, stayed what it was made as?
func untouched(got, want any) bool {
	a, b := lists(reflect.ValueOf(got)), lists(reflect.ValueOf(want))
	if len(a) != len(b) {
		return false
	}
	for i := range a {
		if !reflect.DeepEqual(a[i].Interface(), b[i].Interface()) {
			return false
		}
	}
	return true
}

// P6.1, P6.2, R6: what is checked is neither changed nor part of the answer, spare room included.
func TestCheckingKeepsNothing(t *testing.T) {
	mem := &memory{t: t}
	bad := fullNode("n")
	bad.Cap = append(bad.Cap, api.Item{Name: "cpu", N: 1})
	made, _ := cluster.CheckNode(fullNode("n"))
	for _, n := range []api.Node{fullNode("n"), fullNode("N"), bad, made, {Name: "n"}} {
		given := roomyNode(n)
		got, _ := cluster.CheckNode(given)
		if !untouched(given, roomyNode(n)) {
			t.Errorf("CheckNode has written into %+v", given)
		}
		mem.apart("CheckNode", given, got)
		want, _ := cluster.CheckNode(n)
		overwrite(given)
		if !sameNode(got, want) {
			t.Errorf("CheckNode has kept what it was given: %+v", got)
		}
	}
	wrongPod := fullPod("p")
	wrongPod.Tolerations = append(wrongPod.Tolerations, api.Toleration{})
	madePod, _ := cluster.CheckPod(fullPod("p"))
	for _, p := range []api.Pod{fullPod("p"), fullPod("P"), wrongPod, madePod, {Name: "p"}} {
		given := roomyPod(p)
		got, _ := cluster.CheckPod(given)
		if !untouched(given, roomyPod(p)) {
			t.Errorf("CheckPod has written into %+v", given)
		}
		mem.apart("CheckPod", given, got)
		want, _ := cluster.CheckPod(p)
		overwrite(given)
		if !samePod(got, want) {
			t.Errorf("CheckPod has kept what it was given: %+v", got)
		}
	}
}

// answers is everything that a cluster tells of the names.
func answers(c *cluster.Cluster, names ...string) []any {
	all := []any{c.Nodes(), c.Pods(), c.Live().Words()}
	for _, name := range names {
		n, _ := c.Node(name)
		p, _, _ := c.Pod(name)
		used, _ := c.Used(name)
		room, _ := c.Room(name)
		all = append(all, n, p, used, room, c.On(name))
	}
	return all
}

// P6.3 to P6.14, R6: no list that is handed in or answered, spare room included, is kept or shared with another: who writes over all of them changes nothing.
func TestNoMemoryIsShared(t *testing.T) {
	b := made(t)
	mem := &memory{t: t}
	n, m, p, q := roomyNode(fullNode("n")), roomyNode(api.Node{Name: "m"}), roomyPod(fullPod("p")), roomyPod(pod("q"))
	less, more, fewer := roomy(items("mem", 10, "cpu", 2)), roomy(items("mem", 11, "cpu", 5)), roomy(items("cpu", 1))
	given := []any{n, m, p, q, less, more, fewer}
	twins := []any{roomyNode(fullNode("n")), roomyNode(api.Node{Name: "m"}), roomyPod(fullPod("p")), roomyPod(pod("q")),
		roomy(items("mem", 10, "cpu", 2)), roomy(items("mem", 11, "cpu", 5)), roomy(items("cpu", 1))}
	mem.apart("what is given", given...)
	var told []any
	for i, call := range []func() (api.Change, error){
		func() (api.Change, error) { return b.add(n) },
		func() (api.Change, error) { return b.add(m) },
		func() (api.Change, error) { return b.add(n) },
		func() (api.Change, error) { return b.bind(p, "n") },
		func() (api.Change, error) { return b.bind(p, "n") },
		func() (api.Change, error) { return b.bind(q, "n") },
		func() (api.Change, error) { return b.label("n", "zone", "y") },
		func() (api.Change, error) { return b.label("n", "zone", "y") },
		func() (api.Change, error) { return b.label("n", "new", "y") },
		func() (api.Change, error) { return b.unlabel("n", "disk") },
		func() (api.Change, error) { return b.unlabel("n", "disk") },
		func() (api.Change, error) { return b.taint("n", mark("gpu", "z", api.NoSchedule)) },
		func() (api.Change, error) { return b.taint("n", mark("new", "z", api.NoSchedule)) },
		func() (api.Change, error) { return b.untaint("n", "gpu", api.NoExecute) },
		func() (api.Change, error) { return b.cordon("n", true) },
		func() (api.Change, error) { return b.cordon("n", false) },
		func() (api.Change, error) { return b.resize("n", less) },
		func() (api.Change, error) { return b.resize("n", more) },
		func() (api.Change, error) { return b.resize("n", fewer) },
		func() (api.Change, error) { return b.unbind("q") },
		func() (api.Change, error) { return b.unbind("p") },
		func() (api.Change, error) { return b.bind(p, "n") },
		func() (api.Change, error) { return b.remove("m") },
		func() (api.Change, error) { return b.add(m) },
	} {
		ch, _ := call()
		mem.apart("call "+nth(i), ch)
		for j := range given {
			if !untouched(given[j], twins[j]) {
				t.Errorf("call %d has written into %+v", i, given[j])
			}
		}
		for range 2 {
			all := answers(b.c, "n", "m", "p", "q")
			mem.apart("answers behind call "+nth(i), all...)
			told = append(told, all...)
		}
		overwrite(ch)
		overwrite(told...)
		b.check("behind call " + nth(i))
	}
	overwrite(given...)
	b.check("all that was given is overwritten")
}

// P6.11 to P6.14, R6: what was answered stays as it was, whatever is done to the cluster later.
func TestAnswersStay(t *testing.T) {
	b := made(t)
	b.add(fullNode("n"))
	b.add(node("m", "cpu", 1))
	ch, _ := b.bind(fullPod("p"), "n")
	b.bind(pod("a"), "n")
	b.bind(pod("q", "cpu", 1), "m")
	live := b.c.Live()
	told := append(answers(b.c, "n", "m", "p", "a", "q"), ch)
	want := append(answers(b.c, "n", "m", "p", "a", "q"), copyOf(ch))
	b.label("n", "app", "y")
	b.unlabel("n", "zone")
	b.taint("n", mark("disk", "z", api.PreferNoSchedule))
	b.untaint("n", "gpu", api.NoExecute)
	b.cordon("n", false)
	b.resize("n", items("cpu", 7, "mem", 77, "zzz", 7))
	b.bind(pod("b", "cpu", 5), "n")
	b.unbind("p")
	b.bind(pod("p", "zzz", 5), "n")
	b.unbind("q")
	b.remove("m")
	b.add(node("o"))
	b.unbind("a")
	if !reflect.DeepEqual(told, want) {
		t.Errorf("what was answered has become %+v, was %+v", told, want)
	}
	if !bitset.Equal(live, must(bitset.From(512, []int{0, 1}))) {
		t.Errorf("Live has become %v", live.Members())
	}
	b.check("changed")
}

func must(s *bitset.Set, _ api.Errno) *bitset.Set { return s }

// copyOf is a change with lists of its own.
func copyOf(ch api.Change) api.Change {
	for _, n := range []*api.Node{&ch.Was, &ch.Now} {
		n.Labels, n.Taints, n.Cap = slices.Clone(n.Labels), slices.Clone(n.Taints), slices.Clone(n.Cap)
	}
	p := &ch.Pod
	p.Labels, p.Needs, p.Tolerations = slices.Clone(p.Labels), slices.Clone(p.Needs), slices.Clone(p.Tolerations)
	p.Apart, p.Prefer = slices.Clone(p.Apart), slices.Clone(p.Prefer)
	return ch
}

// R5: an empty list may be nil or empty: both mean the same in every call that takes lists.
func TestEmptyLists(t *testing.T) {
	b := made(t)
	b.add(api.Node{Name: "a"})
	b.add(api.Node{Name: "b", Labels: []api.Label{}, Taints: []api.Taint{}, Cap: []api.Item{}})
	b.bind(api.Pod{Name: "p"}, "a")
	b.bind(api.Pod{Name: "q", Labels: []api.Label{}, Needs: []api.Item{}, Tolerations: []api.Toleration{}, Apart: []api.Apart{}, Prefer: []api.Prefer{}}, "b")
	for _, name := range []string{"a", "b"} {
		for _, list := range [][]api.Item{nil, {}} {
			ch, err := b.resize(name, list)
			is(t, "Resize", ch, err, nil)
			if !sameNode(ch.Was, ch.Now) {
				t.Errorf("Resize: %+v", ch)
			}
		}
	}
	b.check("empty lists")
}

// sameAnswers: are two lists of answers alike, whether an empty list is nil or not?
func sameAnswers(a, b []any) bool {
	if len(a) != len(b) {
		return false
	}
	for i := range a {
		x, y := reflect.ValueOf(a[i]), reflect.ValueOf(b[i])
		if x.Kind() == reflect.Slice && x.Len() == 0 && y.Len() == 0 {
			continue
		}
		switch v := a[i].(type) {
		case api.Node:
			if !sameNode(v, b[i].(api.Node)) {
				return false
			}
		case api.Pod:
			if !samePod(v, b[i].(api.Pod)) {
				return false
			}
		default:
			if !reflect.DeepEqual(a[i], b[i]) {
				return false
			}
		}
	}
	return true
}
