package mean_test

import (
	"fmt"
	"maps"
	"reflect"
	"regexp"
	"slices"
	"strconv"
	"testing"

	"berth/api"
	"berth/cluster"
	"berth/mean"
	"berth/show"
	"berth/sorts"
)

// model says what a tree means by the words of the chapter, anew at every place: what a part is worth is nil where it is undefined, else a bool, a string, an int or a set of one of the latter.
type model struct {
	tree api.Tree
	c    *cluster.Cluster
	pod  api.Pod
}

// who is what is looked at: either a node or a bound pod.
type who struct {
	node *api.Node
	it   *api.Pod
}

func get(list []api.Label, key string) any {
	for _, l := range list {
		if l.Key == key {
			return l.Value
		}
	}
	return nil
}

func keysOf(list []api.Label) map[string]bool {
	out := map[string]bool{}
	for _, l := range list {
		out[l.Key] = true
	}
	return out
}

// side is the name and the labels of the node, the pod or it.
func (m model) side(num int, w who) (string, []api.Label) {
	switch num {
	case pod:
		return m.pod.Name, m.pod.Labels
	case node:
		return w.node.Name, w.node.Labels
	}
	return w.it.Name, w.it.Labels
}

func (m model) worth(at int, w who) any {
	part := m.tree.Parts[at]
	kid := func(i int) any { return m.worth(part.Kids[i], w) }
	named, labels := "", []api.Label(nil)
	switch part.Kind {
	case api.KLabel, api.KName, api.KKeys:
		named, labels = m.side(part.Num, w)
	}
	switch part.Kind {
	case api.KTrue:
		return true
	case api.KFalse:
		return false
	case api.KNot:
		return !kid(0).(bool)
	case api.KAnd, api.KOr:
		worths := map[bool]int{}
		for i := range part.Kids {
			worths[kid(i).(bool)]++
		}
		return part.Kind == api.KAnd && worths[false] == 0 || part.Kind == api.KOr && worths[true] > 0
	case api.KCmp:
		return stands(kid(0), part.Num, kid(1))
	case api.KIn:
		return among(kid(0), kid(1)) != (part.Num == 1)
	case api.KNear, api.KApart:
		n, _ := m.count(part, w).(int)
		return n > 0 == (part.Kind == api.KNear)
	case api.KTolerated:
		return m.tolerates(w.node.Taints, part.Text)
	case api.KText:
		return part.Text
	case api.KNum:
		return part.Num
	case api.KSet:
		return m.set(part.Kids)
	case api.KLabel:
		return get(labels, part.Text)
	case api.KName:
		return named
	case api.KKeys:
		return keysOf(labels)
	case api.KTaints:
		out := map[string]bool{}
		for _, t := range w.node.Taints {
			out[t.Key] = true
		}
		return out
	case api.KCap:
		for _, item := range w.node.Cap {
			if item.Name == part.Text {
				return item.N
			}
		}
		return 0
	case api.KInt:
		return integerOf(kid(0))
	case api.KCount:
		return m.count(part, w)
	}
	panic("no kind")
}

func stands(a any, c int, b any) bool {
	if a == nil || b == nil {
		return c == 2
	}
	if c <= 2 {
		return (a == b) == (c == 1)
	}
	x, y := a.(int), b.(int)
	return c == 3 && x < y || c == 4 && x <= y || c == 5 && x > y || c == 6 && x >= y
}

func among(one, set any) bool {
	switch set := set.(type) {
	case map[string]bool:
		s, is := one.(string)
		return is && set[s]
	case map[int]bool:
		n, is := one.(int)
		return is && set[n]
	}
	return false
}

// set is one of texts, of numbers, or, if it is empty, of neither.
func (m model) set(kids []int) any {
	texts, nums := map[string]bool{}, map[int]bool{}
	for _, kid := range kids {
		if part := m.tree.Parts[kid]; part.Kind == api.KText {
			texts[part.Text] = true
		} else {
			nums[part.Num] = true
		}
	}
	switch {
	case len(texts) > 0:
		return texts
	case len(nums) > 0:
		return nums
	}
	return struct{}{}
}

var integerForm = regexp.MustCompile(`^(0|-?[1-9][0-9]{0,14})$`)

func integerOf(worth any) any {
	s, is := worth.(string)
	if !is || !integerForm.MatchString(s) {
		return nil
	}
	n, _ := strconv.Atoi(s)
	return n
}

func (m model) tolerates(taints []api.Taint, effect string) bool {
	for _, t := range taints {
		tolerated := false
		for _, o := range m.pod.Tolerations {
			exists := o.Op == "Exists" && (o.Key == "" || o.Key == t.Key)
			equals := o.Op == "Equal" && o.Key == t.Key && o.Value == t.Value
			tolerated = tolerated || (exists || equals) && (o.Effect == "" || o.Effect == t.Effect)
		}
		if t.Effect == effect && !tolerated {
			return false
		}
	}
	return true
}

// count goes over all bound pods.
func (m model) count(part api.Part, w who) any {
	here := get(w.node.Labels, part.Text)
	if here == nil {
		return nil
	}
	n := 0
	for _, podName := range m.c.Pods() {
		bound, on, _ := m.c.Pod(podName)
		home, _ := m.c.Node(on)
		if get(home.Labels, part.Text) == here && m.worth(part.Kids[0], who{it: &bound}) == true {
			n++
		}
	}
	return n
}

// value is a worth as the chapter wants it told.
func value(sort api.Sort, worth any) api.Value {
	v := api.Value{Sort: sort, Known: worth != nil}
	switch w := worth.(type) {
	case bool:
		v.Bool = w
	case string:
		v.Text = w
	case int:
		v.Num = w
	case map[string]bool:
		v.Texts = slices.Sorted(maps.Keys(w))
	case map[int]bool:
		v.Nums = slices.Sorted(maps.Keys(w))
	}
	return v
}

// decides goes down from the whole to the part that decides.
func (m model) decides(w who) int {
	at := len(m.tree.Parts) - 1
down:
	for {
		part := m.tree.Parts[at]
		if part.Kind == api.KNot {
			at = part.Kids[0]
			continue
		}
		if part.Kind == api.KAnd || part.Kind == api.KOr {
			for _, kid := range part.Kids {
				if m.worth(kid, w) == (part.Kind == api.KOr) {
					at = kid
					continue down
				}
			}
		}
		return at
	}
}

// inSelector are the places that stand in a selector.
func inSelector(tree api.Tree) map[int]bool {
	out := map[int]bool{}
	for at := len(tree.Parts) - 1; at >= 0; at-- {
		kind := tree.Parts[at].Kind
		for _, kid := range tree.Parts[at].Kids {
			out[kid] = out[at] || kind == api.KNear || kind == api.KApart || kind == api.KCount
		}
	}
	return out
}

// treeFault is what this layer tells of a tree; nil, if layer 14 takes it.
func treeFault(tree api.Tree, scope api.Side) *api.Fault {
	if _, err := sorts.Check(tree, scope); err != nil {
		cause := err.(*api.Fault)
		return &api.Fault{Code: 150, At: cause.At, Cause: cause}
	}
	return nil
}

// sameFault: whether an error is nil where none is wanted, else a *api.Fault itself just as the wanted one, its causes too.
func sameFault(err error, want *api.Fault) bool {
	if want == nil || err == nil {
		return err == nil && want == nil
	}
	f, ok := err.(*api.Fault)
	if !ok || f == nil || f.Code != want.Code || f.At != want.At || f.Name != want.Name {
		return false
	}
	if want.Cause == nil {
		return f.Cause == nil
	}
	return sameFault(f.Cause, want.Cause.(*api.Fault))
}

// sameValue: lists that are nil and lists that are empty mean the same.
func sameValue(a, b api.Value) bool {
	same := slices.Equal(a.Texts, b.Texts) && slices.Equal(a.Nums, b.Nums)
	a.Texts, a.Nums, b.Texts, b.Nums = nil, nil, nil, nil
	return same && reflect.DeepEqual(a, b)
}

// told is a tree as a test's message tells it.
func told(tree api.Tree) string {
	if s, err := show.Text(tree); err == nil {
		return s
	}
	s := fmt.Sprintf("%d parts: %+v", len(tree.Parts), tree.Parts[:min(len(tree.Parts), 12)])
	return s[:min(len(s), 600)]
}

// checkRefused: all calls at a node tell a fault, and nothing beside it.
func checkRefused(t *testing.T, c *cluster.Cluster, tree api.Tree, p api.Pod, at string, want *api.Fault) {
	t.Helper()
	if holds, err := mean.Holds(c, tree, p, at); holds || !sameFault(err, want) {
		t.Fatalf("Holds(%s) at %q = %v, %v, want %v", told(tree), at, holds, err, want)
	}
	for _, part := range []int{-1, 0, len(tree.Parts) - 1, len(tree.Parts)} {
		if v, err := mean.Value(c, tree, p, at, part); !sameValue(v, api.Value{}) || !sameFault(err, want) {
			t.Fatalf("Value(%s) at %q of %d = %v, %v, want %v", told(tree), at, part, v, err, want)
		}
	}
	if place, holds, err := mean.Why(c, tree, p, at); place != 0 || holds || !sameFault(err, want) {
		t.Fatalf("Why(%s) at %q = %d, %v, %v, want %v", told(tree), at, place, holds, err, want)
	}
}

// checkNode holds Holds, Value at each place and beside them, and Why at one node against the model; it answers whether the whole holds.
func (m model) checkNode(t *testing.T, types []api.Type, n api.Node) bool {
	t.Helper()
	w, last := who{node: &n}, len(m.tree.Parts)-1
	want := m.worth(last, w).(bool)
	if holds, err := mean.Holds(m.c, m.tree, m.pod, n.Name); holds != want || err != nil {
		t.Fatalf("Holds(%s) at %s = %v, %v, want %v", told(m.tree), n.Name, holds, err, want)
	}
	if at, holds, err := mean.Why(m.c, m.tree, m.pod, n.Name); at != m.decides(w) || holds != want || err != nil {
		t.Fatalf("Why(%s) at %s = %d, %v, %v, want %d, %v", told(m.tree), n.Name, at, holds, err, m.decides(w), want)
	}
	hidden := inSelector(m.tree)
	for at := -1; at <= last+1; at++ {
		v, err := mean.Value(m.c, m.tree, m.pod, n.Name, at)
		if at < 0 || at > last || hidden[at] {
			if fault := (&api.Fault{Code: 150, At: at}); !sameValue(v, api.Value{}) || !sameFault(err, fault) {
				t.Fatalf("Value(%s) at %s of %d = %+v, %v, want %v", told(m.tree), n.Name, at, v, err, fault)
			}
			continue
		}
		if wanted := value(types[at].Sort, m.worth(at, w)); !sameValue(v, wanted) || err != nil {
			t.Fatalf("Value(%s) at %s of %d = %+v, %v, want %+v", told(m.tree), n.Name, at, v, err, wanted)
		}
	}
	return want
}

// check holds Holds, Where, Value and Why of a tree against the model, at every node of the cluster and at one that isn't there; it answers the nodes at which the tree holds, or the tree's fault.
func check(t *testing.T, c *cluster.Cluster, tree api.Tree, p api.Pod) ([]string, *api.Fault) {
	t.Helper()
	if fault := treeFault(tree, api.OfNode); fault != nil {
		for _, name := range append(c.Nodes(), "none", "") {
			checkRefused(t, c, tree, p, name, fault)
		}
		if names, err := mean.Where(c, tree, p); len(names) != 0 || !sameFault(err, fault) {
			t.Fatalf("Where(%s) = %q, %v, want %v", told(tree), names, err, fault)
		}
		return nil, fault
	}
	types, _ := sorts.Check(tree, api.OfNode)
	var want []string
	for _, name := range c.Nodes() {
		n, _ := c.Node(name)
		if (model{tree, c, p}).checkNode(t, types, n) {
			want = append(want, name)
		}
	}
	for _, name := range []string{"none", "", "A b"} {
		checkRefused(t, c, tree, p, name, &api.Fault{Code: 151, At: -1, Name: name})
	}
	names, err := mean.Where(c, tree, p)
	if !slices.Equal(names, want) || err != nil {
		t.Fatalf("Where(%s) = %q, %v, want %q", told(tree), names, err, want)
	}
	return names, nil
}

// checkSelects holds Selects against the model.
func checkSelects(t *testing.T, tree api.Tree, p, it api.Pod) (bool, *api.Fault) {
	t.Helper()
	fault := treeFault(tree, api.OfIt)
	want := fault == nil && (model{tree, nil, p}).worth(len(tree.Parts)-1, who{it: &it}) == true
	selects, err := mean.Selects(tree, p, it)
	if selects != want || !sameFault(err, fault) {
		t.Fatalf("Selects(%s, %+v, %+v) = %v, %v, want %v, %v", told(tree), p, it, selects, err, want, fault)
	}
	return selects, fault
}

// expectWhere: a source that holds at just these nodes, told as fmt tells a list.
func expectWhere(t *testing.T, c *cluster.Cluster, source string, p api.Pod, want string) {
	t.Helper()
	names, fault := check(t, c, read(t, source), p)
	if fmt.Sprint(names) != want || fault != nil {
		t.Errorf("%s: %v, %v, want %s", source, names, fault, want)
	}
}
