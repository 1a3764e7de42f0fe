package index_test

import (
	"fmt"
	"math"
	"slices"
	"strings"
	"testing"

	"berth/api"
	"berth/bitset"
	"berth/index"
)

// asked is what an index answers to one call, and what it must be.
type asked struct {
	what string
	got  *bitset.Set
	want []int
}

func nodesAre(t *testing.T, list []asked) {
	t.Helper()
	for _, a := range list {
		is(t, a.what, a.got, api.MaxNodes, a.want)
	}
}

func podsAre(t *testing.T, list []asked) {
	t.Helper()
	for _, a := range list {
		is(t, a.what, a.got, api.MaxPods, a.want)
	}
}

const last, lastPod = api.MaxNodes - 1, api.MaxPods - 1

// P10.5: all rows, those with a label, with a key, with a name; of nodes.
func TestNodesByTexts(t *testing.T) {
	x := ordinary(t).x
	var none []int
	nodesAre(t, []asked{
		{"Live", x.Live(api.OfNode), []int{0, 1, 2, 63, last}},
		{"one value", x.Label(api.OfNode, "zone", []string{"x"}), []int{0, 2}},
		{"values out of order and twice", x.Label(api.OfNode, "zone", []string{"y", "x", "q", "y"}), []int{0, 1, 2}},
		{"the empty value", x.Label(api.OfNode, "zone", []string{""}), []int{last}},
		{"no value, nil", x.Label(api.OfNode, "zone", nil), none},
		{"no value", x.Label(api.OfNode, "zone", []string{}), none},
		{"another key's value", x.Label(api.OfNode, "disk", []string{"x", "web"}), none},
		{"a key that no node has", x.Label(api.OfNode, "tier", []string{"", "x"}), none},
		{"a pod's label", x.Label(api.OfNode, "app", []string{"db"}), none},
		{"no key at all", x.Label(api.OfNode, "", []string{""}), none},
		{"a key", x.Has(api.OfNode, []string{"zone"}), []int{0, 1, 2, last}},
		{"keys out of order and twice", x.Has(api.OfNode, []string{"disk", "app", "none", "disk"}), []int{0, 2}},
		{"no keys, nil", x.Has(api.OfNode, nil), none},
		{"no keys", x.Has(api.OfNode, []string{}), none},
		{"keys that no node has", x.Has(api.OfNode, []string{"", "tier", "gpu", "cpu"}), none},
		{"names out of order and twice", x.Name(api.OfNode, []string{"e", "a", "x", "a"}), []int{0, last}},
		{"pods' names", x.Name(api.OfNode, []string{"p", "q", ""}), none},
		{"no names", x.Name(api.OfNode, nil), none},
	})
}

// P10.5: the same of pods.
func TestPodsByTexts(t *testing.T) {
	x := ordinary(t).x
	var none []int
	podsAre(t, []asked{
		{"Live", x.Live(api.OfIt), []int{0, 1, 2, 64, lastPod}},
		{"one value", x.Label(api.OfIt, "app", []string{"web"}), []int{0, 1, 2}},
		{"values", x.Label(api.OfIt, "app", []string{"web", "db", "db"}), []int{0, 1, 2, 64}},
		{"a node's label", x.Label(api.OfIt, "zone", []string{"y", ""}), none},
		{"no value", x.Label(api.OfIt, "app", nil), none},
		{"keys", x.Has(api.OfIt, []string{"zone", "rank"}), []int{0, 1, 2, 64}},
		{"a node's key", x.Has(api.OfIt, []string{"disk"}), none},
		{"names", x.Name(api.OfIt, []string{"s", "a", "p", "s"}), []int{0, 64, lastPod}},
		{"nodes' names", x.Name(api.OfIt, []string{"b", "c", "d"}), none},
	})
}

// P10.6, R12: each cmp with n below 0, 0, at the numbers and at the ends of int; a cmp that is none; values that are no number, rows without the key.
func TestNumber(t *testing.T) {
	x := ordinary(t).x // rank: 3 at 0, -5 at 1, x at 2, none at 63, 7 at the last
	ns := []int{math.MinInt, -6, -5, 0, 3, 6, 7, 8, math.MaxInt}
	all := []int{0, 1, last}
	low, mid, high := []int{1}, []int{0}, []int{last}
	var none []int
	for cmp, want := range map[api.Cmp][][]int{
		api.CmpEq: {none, none, low, none, mid, none, high, none, none},
		api.CmpNe: {all, all, {0, last}, all, {1, last}, all, {0, 1}, all, all},
		api.CmpLt: {none, none, none, low, low, {0, 1}, {0, 1}, all, all},
		api.CmpLe: {none, none, low, low, {0, 1}, {0, 1}, all, all, all},
		api.CmpGt: {all, all, {0, last}, {0, last}, high, high, none, none, none},
		api.CmpGe: {all, all, all, {0, last}, {0, last}, high, high, none, none},
		0:         make([][]int, 9), 7: make([][]int, 9), -1: make([][]int, 9), 1<<32 + 1: make([][]int, 9),
	} {
		for i, n := range ns {
			is(t, fmt.Sprint("Number ", cmp, " ", n), x.Number(api.OfNode, "rank", cmp, n), api.MaxNodes, want[i])
			is(t, fmt.Sprint("Number of no number ", cmp, " ", n), x.Number(api.OfNode, "zone", cmp, n), api.MaxNodes, none)
			is(t, fmt.Sprint("Number of no key ", cmp, " ", n), x.Number(api.OfNode, "", cmp, n), api.MaxNodes, none)
		}
	}
	nodesAre(t, []asked{
		{"NumberIn", x.NumberIn(api.OfNode, "rank", []int{7, 9, -5, 7}), []int{1, last}},
		{"NumberIn of no numbers", x.NumberIn(api.OfNode, "rank", nil), none},
		{"NumberIn of others", x.NumberIn(api.OfNode, "rank", []int{0, 5, math.MinInt, math.MaxInt}), none},
		{"NumberIn of no number", x.NumberIn(api.OfNode, "zone", []int{0}), none},
	})
	podsAre(t, []asked{
		{"of pods", x.Number(api.OfIt, "rank", api.CmpNe, 0), []int{0, 2}},
		{"of pods, in", x.NumberIn(api.OfIt, "rank", []int{-5, 4}), []int{2}},
		{"of pods, another key", x.Number(api.OfIt, "app", api.CmpNe, 0), none},
	})
}

// P10.6: which values are numbers, labels.Int says: the longest one is, a longer one, one with a zero ahead and the like are none.
func TestWhatIsNumber(t *testing.T) {
	b := made(t)
	longest := strings.Repeat("9", api.MaxDigits)
	for i, value := range []string{"0", longest, longest + "9", "07", "1.5", "", "x1", "-" + longest, "00", "1e3", "1_0"} {
		b.does(nodeAdd(i, named("n"+string(rune('a'+i)), "rank", value)))
		b.does(podAdd(i, i, "p"+string(rune('a'+i)), tags("rank", value)...))
	}
	b.check("numbers and others")
	is(t, "all numbers", b.x.Number(api.OfNode, "rank", api.CmpGe, math.MinInt), api.MaxNodes, []int{0, 1, 7})
	is(t, "of pods", b.x.Number(api.OfIt, "rank", api.CmpLt, 1), api.MaxPods, []int{0, 7})
	is(t, "in", b.x.NumberIn(api.OfIt, "rank", []int{999999999999999, 7}), api.MaxPods, []int{1})
}

// P10.7: a node without the resource has 0 of it; each cmp at the amounts, below 0, at 0 and at the ends of int; texts that are no resource.
func TestCap(t *testing.T) {
	x := ordinary(t).x // cpu: 4 at 0, 8 at 1, none at the others
	all, without, four, eight := []int{0, 1, 2, 63, last}, []int{2, 63, last}, []int{0}, []int{1}
	var none []int
	ns := []int{math.MinInt, -1, 0, 1, 4, 8, 9, math.MaxInt}
	for cmp, want := range map[api.Cmp][][]int{
		api.CmpEq: {none, none, without, none, four, eight, none, none},
		api.CmpNe: {all, all, {0, 1}, all, {1, 2, 63, last}, {0, 2, 63, last}, all, all},
		api.CmpLt: {none, none, none, without, without, {0, 2, 63, last}, all, all},
		api.CmpLe: {none, none, without, without, {0, 2, 63, last}, all, all, all},
		api.CmpGt: {all, all, {0, 1}, {0, 1}, eight, none, none, none},
		api.CmpGe: {all, all, all, {0, 1}, {0, 1}, eight, none, none},
		0:         make([][]int, 8), 7: make([][]int, 8), -1: make([][]int, 8), 1<<32 + 6: make([][]int, 8),
	} {
		for i, n := range ns {
			is(t, fmt.Sprint("Cap ", cmp, " ", n), x.Cap("cpu", cmp, n), api.MaxNodes, want[i])
			lacking := none
			if so(cmp, n)(0) {
				lacking = all
			}
			for _, text := range append([]string{"none", "zone", "CPU", "cpu "}, oddTexts...) {
				is(t, fmt.Sprintf("Cap(%.10q, %d, %d)", text, cmp, n), x.Cap(text, cmp, n), api.MaxNodes, lacking)
			}
		}
	}
	nodesAre(t, []asked{
		{"in", x.CapIn("cpu", []int{8, 3, 8}), eight},
		{"in, with 0", x.CapIn("cpu", []int{4, 0}), []int{0, 2, 63, last}},
		{"in, of none", x.CapIn("cpu", nil), none},
		{"in, of none", x.CapIn("none", []int{}), none},
		{"in, of others", x.CapIn("cpu", []int{-1, 5, math.MinInt, math.MaxInt}), none},
		{"in, of no resource", x.CapIn("", []int{0}), all},
		{"in, of no resource without 0", x.CapIn("\xff", []int{1}), none},
	})
}

// P10.7: the greatest capacity there may be.
func TestGreatestCap(t *testing.T) {
	b := made(t)
	b.does(nodeAdd(0, api.Node{Name: "a", Cap: items("cpu", api.MaxAmount)}))
	b.does(nodeAdd(1, api.Node{Name: "b", Cap: items("cpu", api.MaxAmount-1)}))
	b.check("greatest")
	is(t, "at it", b.x.Cap("cpu", api.CmpGe, api.MaxAmount), api.MaxNodes, []int{0})
	is(t, "above it", b.x.Cap("cpu", api.CmpGt, api.MaxAmount), api.MaxNodes, nil)
	is(t, "in", b.x.CapIn("cpu", []int{api.MaxAmount, api.MaxAmount - 1}), api.MaxNodes, []int{0, 1})
}

// P10.8: taints by key, whatever their values and effects; what tolerations leave of an effect; which nodes are open.
func TestTaints(t *testing.T) {
	x := ordinary(t).x // 0: disk:NoExecute gpu=x:NoSchedule; 1: gpu:NoExecute gpu:PreferNoSchedule; 63: zone=x:NoSchedule
	all := []int{0, 1, 2, 63, last}
	var none []int
	gpu := api.Toleration{Key: "gpu", Op: api.Exists}
	list := func(os ...api.Toleration) []api.Toleration { return os }
	nodesAre(t, []asked{
		{"a key", x.Tainted([]string{"gpu"}), []int{0, 1}},
		{"keys out of order and twice", x.Tainted([]string{"zone", "disk", "zone"}), []int{0, 63}},
		{"no keys", x.Tainted(nil), none},
		{"keys that no taint has", x.Tainted([]string{"", "x", "rank", api.NoSchedule}), none},
		{"nothing tolerates", x.Tolerated(nil, api.NoSchedule), []int{1, 2, last}},
		{"nothing tolerates", x.Tolerated(list(), api.NoExecute), []int{2, 63, last}},
		{"nothing tolerates", x.Tolerated(nil, api.PreferNoSchedule), []int{0, 2, 63, last}},
		{"an effect that is none", x.Tolerated(nil, "noexecute"), all},
		{"no effect", x.Tolerated(nil, ""), all},
		{"a key", x.Tolerated(list(gpu), api.NoSchedule), []int{0, 1, 2, last}},
		{"a key, not both taints", x.Tolerated(list(gpu), api.NoExecute), []int{1, 2, 63, last}},
		{"two keys", x.Tolerated(list(gpu, api.Toleration{Key: "disk", Op: api.Equal}), api.NoExecute), all},
		{"every key", x.Tolerated(list(api.Toleration{Op: api.Exists}), api.NoSchedule), all},
		{"every key of another effect", x.Tolerated(list(api.Toleration{Op: api.Exists, Effect: api.NoExecute}), api.NoSchedule), []int{1, 2, last}},
		{"a value", x.Tolerated(list(api.Toleration{Key: "gpu", Op: api.Equal, Value: "x"}), api.NoSchedule), []int{0, 1, 2, last}},
		{"another value", x.Tolerated(list(api.Toleration{Key: "gpu", Op: api.Equal, Value: "y"}), api.NoSchedule), []int{1, 2, last}},
		{"no operator", x.Tolerated(list(api.Toleration{Key: "gpu"}), api.NoSchedule), []int{1, 2, last}},
		{"an effect of no taint", x.Tolerated(list(api.Toleration{Op: api.Exists, Effect: "x"}), api.NoSchedule), []int{1, 2, last}},
		{"open", x.Open(), []int{0, 1, 63, last}},
	})
}

// P10.8: two nodes with the same taint but for its value, and one with both effects of a key.
func TestTaintsApart(t *testing.T) {
	b := made(t)
	b.does(nodeAdd(0, api.Node{Name: "a", Taints: marks("gpu", "x", api.NoSchedule)}))
	b.does(nodeAdd(1, api.Node{Name: "b", Taints: marks("gpu", "y", api.NoSchedule)}))
	b.does(nodeAdd(2, api.Node{Name: "c", Taints: marks("gpu", "x", api.NoExecute, "gpu", "x", api.NoSchedule)}))
	equal := []api.Toleration{{Key: "gpu", Op: api.Equal, Value: "x", Effect: api.NoSchedule}}
	is(t, "by its value", b.x.Tolerated(equal, api.NoSchedule), api.MaxNodes, []int{0, 2})
	is(t, "by its effect", b.x.Tolerated(equal, api.NoExecute), api.MaxNodes, []int{0, 1})
	b.does(nodeSet(0, named("a")))
	is(t, "the others keep it", b.x.Tainted([]string{"gpu"}), api.MaxNodes, []int{1, 2})
	b.does(nodeSet(2, api.Node{Name: "c", Taints: marks("gpu", "x", api.NoExecute)}))
	is(t, "one of two goes", b.x.Tainted([]string{"gpu"}), api.MaxNodes, []int{1, 2})
	is(t, "one of two goes", b.x.Tolerated(nil, api.NoSchedule), api.MaxNodes, []int{0, 2})
	b.check("apart")
}

// P10.9: the pods beside a node, by sets that are nil, of other sizes, with members that are no pod rows.
func TestNear(t *testing.T) {
	x := ordinary(t).x // zone x: nodes 0, 2 with pods 0, 1, last; y: node 1 with 64; "": the last node; without: 63 with 2
	for _, c := range []struct {
		size    int
		members []int
		near    []int
	}{
		{0, nil, nil},
		{1, []int{0}, []int{0, 2}},
		{2, []int{1}, []int{0, 2}},
		{3, []int{2}, nil},
		{65, []int{64}, []int{1}},
		{70, []int{3, 63, 65}, nil},
		{api.MaxPods, []int{1, 64, lastPod}, []int{0, 1, 2}},
		{api.MaxPods + 1, []int{api.MaxPods}, nil},
		{api.MaxUniverse, []int{lastPod, api.MaxPods, api.MaxUniverse - 1}, []int{0, 2}},
	} {
		pods := set(t, c.size, c.members...)
		what := fmt.Sprint("these pods ", c.members, " of ", c.size)
		is(t, what, x.Near("zone", pods), api.MaxNodes, c.near)
		is(t, what, x.Count("zone", pods, api.CmpGt, 0), api.MaxNodes, c.near)
		is(t, what, pods, c.size, c.members)
	}
	nodesAre(t, []asked{
		{"nil", x.Near("zone", nil), nil},
		{"each pod by the node's own", x.Near("disk", x.Live(api.OfIt)), []int{0}},
		{"a key that no node has", x.Near("tier", x.Live(api.OfIt)), nil},
		{"no key", x.Near("", x.Live(api.OfIt)), nil},
		{"a node's own pods at a key's values", x.Near("rank", x.Live(api.OfIt)), []int{0, 1, 2}},
	})
}

// P10.9, R12: each cmp with n below 0, 0, at the numbers and at the ends of int; a cmp that is none; never a node without the key.
func TestCount(t *testing.T) {
	x := ordinary(t).x // of all pods stand three beside 0 and 2, one beside 1, none beside the last
	pods := x.Live(api.OfIt)
	all, three, one, zero := []int{0, 1, 2, last}, []int{0, 2}, []int{1}, []int{last}
	var none []int
	ns := []int{math.MinInt, -1, 0, 1, 2, 3, 4, math.MaxInt}
	for cmp, want := range map[api.Cmp][][]int{
		api.CmpEq: {none, none, zero, one, none, three, none, none},
		api.CmpNe: {all, all, {0, 1, 2}, {0, 2, last}, all, {1, last}, all, all},
		api.CmpLt: {none, none, none, zero, {1, last}, {1, last}, all, all},
		api.CmpLe: {none, none, zero, {1, last}, {1, last}, all, all, all},
		api.CmpGt: {all, all, {0, 1, 2}, three, three, none, none, none},
		api.CmpGe: {all, all, all, {0, 1, 2}, three, three, none, none},
		0:         make([][]int, 8), 7: make([][]int, 8), -1: make([][]int, 8), 1<<32 + 1: make([][]int, 8),
	} {
		for i, n := range ns {
			is(t, fmt.Sprint("Count ", cmp, " ", n), x.Count("zone", pods, cmp, n), api.MaxNodes, want[i])
			is(t, fmt.Sprint("Count of no key ", cmp, " ", n), x.Count("none", pods, cmp, n), api.MaxNodes, none)
		}
	}
	nodesAre(t, []asked{
		{"in", x.CountIn("zone", pods, []int{3, 9, 0, 3}), []int{0, 2, last}},
		{"in, one", x.CountIn("zone", pods, []int{1}), one},
		{"in, of none", x.CountIn("zone", pods, nil), none},
		{"in, of others", x.CountIn("zone", pods, []int{2, -1, math.MinInt, math.MaxInt}), none},
		{"in, of no pods", x.CountIn("zone", nil, []int{0}), all},
		{"in, of a key that no node has", x.CountIn("tier", pods, []int{0, 1, 2, 3}), none},
	})
}

// P10.10: the pods beside a node that have a label; slots without a row, nodes without the key, the ends of int.
func TestWith(t *testing.T) {
	x := ordinary(t).x
	for _, c := range []struct {
		topo       string
		slot       int
		key, value string
		n          int
		ok         bool
	}{
		{"zone", 0, "app", "web", 2, true}, {"zone", 2, "app", "web", 2, true}, {"zone", 1, "app", "web", 0, true},
		{"zone", 1, "app", "db", 1, true}, {"zone", last, "app", "web", 0, true}, {"zone", 63, "app", "web", 0, false},
		{"disk", 0, "app", "web", 1, true}, {"disk", 1, "app", "db", 0, false}, {"rank", 2, "zone", "x", 1, true},
		{"zone", 0, "rank", "3", 1, true}, {"zone", 0, "app", "", 0, true}, {"zone", 0, "", "", 0, true}, {"zone", 0, "web", "app", 0, true},
		{"", 0, "app", "web", 0, false}, {"none", 0, "app", "web", 0, false}, {"zone", 3, "app", "web", 0, false},
		{"zone", -1, "app", "web", 0, false}, {"zone", api.MaxNodes, "app", "web", 0, false}, {"zone", 64, "app", "db", 0, false},
		{"zone", math.MinInt, "app", "web", 0, false}, {"zone", math.MaxInt, "app", "web", 0, false}, {"zone", 1 << 32, "app", "web", 0, false},
	} {
		if n, ok := x.With(c.topo, c.slot, c.key, c.value); n != c.n || ok != c.ok {
			t.Errorf("With(%q, %d, %q, %q) = %d, %v, want %d, %v", c.topo, c.slot, c.key, c.value, n, ok, c.n, c.ok)
		}
	}
}

// P10.5, P10.6: with a side that has no rows every answer is an empty bitmap, and is there.
func TestOtherSides(t *testing.T) {
	x := ordinary(t).x
	for _, of := range sides[2:] {
		for i, s := range []*bitset.Set{
			x.Live(of), x.Label(of, "zone", []string{"x", "y"}), x.Label(of, "app", []string{"web"}), x.Has(of, []string{"zone", "app"}), x.Name(of, []string{"a", "b", "p"}),
			x.Number(of, "rank", api.CmpNe, 9), x.NumberIn(of, "rank", []int{3, 7}),
		} {
			if s == nil || s.Count() != 0 {
				t.Errorf("side %d, call %d: %v", of, i, s)
			}
		}
	}
}

// P1: any text and any number anywhere: every call ends, and finds nothing.
func TestAnyArguments(t *testing.T) {
	texts := append(slices.Clone(oddTexts), strings.Repeat("z", 1<<20))
	for _, x := range []*index.Index{nil, index.New(), ordinary(t).x} {
		pods := x.Live(api.OfIt)
		for _, s := range texts {
			for _, of := range sides[:2] {
				for i, got := range []*bitset.Set{
					x.Label(of, s, []string{"x", "web", ""}), x.Has(of, []string{s}), x.Name(of, []string{s}), x.Number(of, s, api.CmpNe, 0), x.NumberIn(of, s, []int{3}),
					x.Tainted([]string{s}), x.Near(s, pods), x.Count(s, pods, api.CmpGe, 0), x.CountIn(s, pods, []int{0, 1}),
				} {
					if got == nil || got.Count() != 0 {
						t.Errorf("call %d of %.20q: %v", i, s, got)
					}
				}
			}
			for _, slot := range slices.Concat(oddInts, []int{0, 1, 2}) {
				if n, ok := x.With(s, slot, "app", "web"); n != 0 || ok {
					t.Errorf("With(%.20q, %d): %d, %v", s, slot, n, ok)
				}
			}
			if n, ok := x.With("zone", 0, s, "web"); n != 0 || ok != (len(x.Live(api.OfNode).Members()) > 0) {
				t.Errorf("With(zone, 0, %.20q): %d, %v", s, n, ok)
			}
		}
	}
}

// P1: lists that are long, with the same thing many times.
func TestLongLists(t *testing.T) {
	x := ordinary(t).x
	texts := slices.Repeat([]string{"zone", "disk", "x", "web", "a", "gpu", "none"}, 50000)
	ns := slices.Repeat([]int{3, 0, -5, 8, 1}, 50000)
	pods := x.Live(api.OfIt)
	nodesAre(t, []asked{
		{"Label", x.Label(api.OfNode, "zone", texts), []int{0, 2}},
		{"Has", x.Has(api.OfNode, texts), []int{0, 1, 2, last}},
		{"Name", x.Name(api.OfNode, texts), []int{0}},
		{"NumberIn", x.NumberIn(api.OfNode, "rank", ns), []int{0, 1}},
		{"CapIn", x.CapIn("cpu", ns), []int{1, 2, 63, last}},
		{"Tainted", x.Tainted(texts), []int{0, 1, 63}},
		{"CountIn", x.CountIn("zone", pods, ns), []int{0, 1, 2, last}},
		{"Tolerated", x.Tolerated(slices.Repeat([]api.Toleration{{Key: "gpu", Op: api.Exists}, {}}, 50000), api.NoExecute), []int{1, 2, 63, last}},
	})
	podsAre(t, []asked{{"of pods", x.Has(api.OfIt, texts), []int{1}}, {"of pods", x.Label(api.OfIt, "app", texts), []int{0, 1, 2}}})
}

// R9: asking changes nothing: an answer is the same as often as it is asked for.
func TestAskingChangesNothing(t *testing.T) {
	b, other := ordinary(t), ordinary(t)
	for range 3 {
		b.check("asked again")
	}
	same(t, "asked and not asked", b.x, other.x, true)
}
