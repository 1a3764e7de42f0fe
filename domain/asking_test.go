package domain_test

import (
	"fmt"
	"math"
	"slices"
	"strings"
	"testing"

	"berth/api"
	"berth/domain"
)

// P9.4 to P9.8: the chapter's examples 1 to 3.
func TestAskExamples(t *testing.T) {
	b := example(t)
	b.check("the examples")
	d := b.d
	if got := d.Keys(); !slices.Equal(got, []string{"disk", "zone"}) {
		t.Errorf("Keys: %q", got)
	}
	gives(t, "Values of zone", d.Values("zone"), []step{{"a", 2}, {"b", 1}})
	gives(t, "Values of app", d.Values("app"), nil)
	if v, ok := d.Of("zone", 2); v != "a" || !ok {
		t.Errorf("Of(zone, 2): %q, %v", v, ok)
	}
	if v, ok := d.Of("zone", 3); v != "" || ok {
		t.Errorf("Of(zone, 3): %q, %v", v, ok)
	}
	is(t, "Nodes", d.Nodes("zone", "a"), api.MaxNodes, []int{0, 2})
	is(t, "Pods", d.Pods("zone", "a"), api.MaxPods, []int{0, 1})
	if n, m := d.Count("zone", "a", "app", "web"), d.Count("zone", "b", "app", "web"); n != 2 || m != 0 {
		t.Errorf("Count: %d, %d", n, m)
	}
	these := set(t, api.MaxPods, 0, 1, 2)
	is(t, "Near", d.Near("zone", these), api.MaxNodes, []int{0, 2})
	gives(t, "Tally", d.Tally("zone", these), []step{{"a", 2}, {"b", 0}})
	is(t, "Ranked <", d.Ranked("zone", these, api.CmpLt, 1), api.MaxNodes, []int{1})
	is(t, "Ranked !=", d.Ranked("zone", these, api.CmpNe, 2), api.MaxNodes, []int{1})
	is(t, "Ranked ==", d.Ranked("disk", these, api.CmpEq, 1), api.MaxNodes, []int{2})
}

// P9.2, P9.4, P9.5: the chapter's examples 4 and 5.
func TestChangeExamples(t *testing.T) {
	b := example(t)
	answers(t, "node 0 to zone=b", b.setNode(0, tags("zone", "b")...), api.OK)
	gives(t, "Values", b.d.Values("zone"), []step{{"a", 1}, {"b", 2}})
	is(t, "Pods", b.d.Pods("zone", "b"), api.MaxPods, []int{0, 3})
	if n := b.d.Count("zone", "b", "app", "web"); n != 1 {
		t.Errorf("Count: %d", n)
	}
	b.check("example 4")
	b = example(t)
	answers(t, "node 3 goes", b.dropNode(3), api.ErrDomain)
	answers(t, "pod 1 from node 0", b.dropPod(1, 0), api.ErrDomain)
	b.check("example 5")
}

// street is a Domains whose domains have many sizes: of the key row one has no pods, the next one, and so on; of the key odd every second node; of the key all all of them.
func street(t *testing.T) both {
	t.Helper()
	b := made(t)
	slot := 0
	for i := range 8 {
		list := tags("all", "", "row", string(rune('h'-i)))
		if i%2 == 1 {
			list = tags("all", "", "odd", string(rune('a'+i/2)), "row", string(rune('h'-i)))
		}
		b.addNode(i*73, list...)
		for j := range i {
			b.addPod(slot, i*73, tags("app", []string{"web", "db"}[j%2], "nr", string(rune('a'+j)))...)
			slot += 71
		}
	}
	b.addNode(7)
	b.addPod(api.MaxPods-1, 7, tags("app", "web")...)
	b.addNode(8, tags("row", "a")...)
	b.addPod(1, 8, tags("app", "web")...)
	return b
}

// P9.4 to P9.8: all answers of many domains, several nodes in one, nodes without the key, pods on nodes with and without it.
func TestStreet(t *testing.T) {
	b := street(t)
	b.check("the street")
	gives(t, "Values of row", b.d.Values("row"), []step{{"a", 2}, {"b", 1}, {"c", 1}, {"d", 1}, {"e", 1}, {"f", 1}, {"g", 1}, {"h", 1}})
	gives(t, "Values of odd", b.d.Values("odd"), []step{{"a", 1}, {"b", 1}, {"c", 1}, {"d", 1}})
	gives(t, "Values of all", b.d.Values("all"), []step{{"", 8}})
	if n := b.d.Count("row", "a", "app", "web"); n != 5 {
		t.Errorf("Count: %d", n)
	}
	if n := b.d.Count("all", "", "app", "db"); n != 12 {
		t.Errorf("Count: %d", n)
	}
}

// P9.4: keys and values stand byte by byte: capitals ahead of small letters, shorter ones ahead of longer ones, digits not by their number.
func TestByteOrder(t *testing.T) {
	b := made(t)
	keys := []string{"0", "A", "Z.z", "a", "a.b/c", "a/b", "aa", "b", "zone", "zone-1", "zone.1", "zone_1", "zones"}
	values := []string{"", "-5", "10", "9", "A", "Zz", "a", "a.b", "aa", "b_c"}
	slices.Sort(keys)
	var steps []step
	for i, value := range values {
		var list []api.Label
		for _, key := range keys {
			list = append(list, api.Label{Key: key, Value: values[(i*7)%10]})
		}
		answers(t, "a node", b.addNode(100-i*3, list...), api.OK)
		steps = append(steps, step{value, 1})
	}
	if got := b.d.Keys(); !slices.Equal(got, keys) {
		t.Errorf("Keys: %q, want %q", got, keys)
	}
	for _, key := range keys {
		gives(t, "Values of "+key, b.d.Values(key), steps)
	}
	b.check("in their order")
}

// P9.4: the empty value is one: a node that has it is in its domain, one without the key in none.
func TestEmptyValue(t *testing.T) {
	b := made(t)
	b.addNode(0, tags("zone", "")...)
	b.addNode(1)
	b.addPod(0, 0, tags("app", "")...)
	b.addPod(1, 1, tags("app", "")...)
	b.addPod(2, 0)
	if v, ok := b.d.Of("zone", 0); v != "" || !ok {
		t.Errorf("Of(zone, 0): %q, %v", v, ok)
	}
	if v, ok := b.d.Of("zone", 1); v != "" || ok {
		t.Errorf("Of(zone, 1): %q, %v", v, ok)
	}
	is(t, "Nodes", b.d.Nodes("zone", ""), api.MaxNodes, []int{0})
	is(t, "Pods", b.d.Pods("zone", ""), api.MaxPods, []int{0, 2})
	if n, m := b.d.Count("zone", "", "app", ""), b.d.Count("none", "", "app", ""); n != 1 || m != 0 {
		t.Errorf("Count: %d, %d", n, m)
	}
	b.check("empty values")
}

// P9.5: keys and values of nodes and of pods are not mixed up, nor run into one another.
func TestCountsApart(t *testing.T) {
	b := made(t)
	b.addNode(0, tags("a", "bc")...)
	b.addNode(1, tags("ab", "c")...)
	b.addPod(0, 0, tags("d", "ef")...)
	b.addPod(1, 0, tags("de", "f")...)
	b.addPod(2, 1, tags("a", "bc")...)
	for _, x := range []struct {
		key, value, podKey, podValue string
		want                         int
	}{
		{"a", "bc", "d", "ef", 1}, {"a", "bc", "de", "f", 1}, {"ab", "c", "d", "ef", 0}, {"ab", "c", "a", "bc", 1},
		{"a", "bc", "a", "bc", 0}, {"d", "ef", "a", "bc", 0}, {"a", "b", "cd", "ef", 0}, {"bc", "a", "ef", "d", 0},
		{"", "", "", "", 0}, {"a", "bc", "", "", 0}, {"a", "bc", "d", "", 0}, {"", "", "d", "ef", 0},
	} {
		if got := b.d.Count(x.key, x.value, x.podKey, x.podValue); got != x.want {
			t.Errorf("Count(%q, %q, %q, %q) = %d, want %d", x.key, x.value, x.podKey, x.podValue, got, x.want)
		}
	}
	b.check("apart")
}

// P9.6 to P9.8: these pods are the kept ones of any set: nil, smaller, greater, with members that are no pods kept.
func TestThesePods(t *testing.T) {
	d := example(t).d
	for _, x := range []struct {
		size    int
		members []int
		near    []int
		a, b    int
	}{
		{0, nil, nil, 0, 0},
		{1, []int{0}, []int{0, 2}, 1, 0},
		{2, []int{1}, []int{0, 2}, 1, 0},
		{4, []int{2}, nil, 0, 0},
		{4, []int{3}, []int{1}, 0, 1},
		{5, []int{4}, nil, 0, 0},
		{api.MaxPods, []int{0, 1, 2, 3, 4, api.MaxPods - 1}, []int{0, 1, 2}, 2, 1},
		{api.MaxPods + 1, []int{api.MaxPods}, nil, 0, 0},
		{api.MaxUniverse, []int{1, 3, api.MaxPods, api.MaxPods + 1, api.MaxUniverse - 1}, []int{0, 1, 2}, 1, 1},
	} {
		pods := set(t, x.size, x.members...)
		what := fmt.Sprint("these pods ", x.members, " of ", x.size)
		is(t, what, d.Near("zone", pods), api.MaxNodes, x.near)
		gives(t, what, d.Tally("zone", pods), []step{{"a", x.a}, {"b", x.b}})
		is(t, what, d.Ranked("zone", pods, api.CmpGt, 0), api.MaxNodes, x.near)
		is(t, what, pods, x.size, x.members)
	}
	is(t, "nil", d.Near("zone", nil), api.MaxNodes, nil)
	gives(t, "nil", d.Tally("zone", nil), []step{{"a", 0}, {"b", 0}})
	is(t, "nil", d.Ranked("zone", nil, api.CmpEq, 0), api.MaxNodes, []int{0, 1, 2})
	is(t, "a key that no node has", d.Near("app", set(t, 4, 0, 1, 2, 3)), api.MaxNodes, nil)
	gives(t, "a key that no node has", d.Tally("app", set(t, 4, 0, 1, 2, 3)), nil)
}

// P9.8, R12: each cmp with n below 0, 0, at the counts and at the ends of int; a cmp that is none; never a node without the key.
func TestRanked(t *testing.T) {
	d := example(t).d // of the pods 0 to 3 stand two in a, one in b
	pods := set(t, 4, 0, 1, 2, 3)
	all, a, b := []int{0, 1, 2}, []int{0, 2}, []int{1}
	var none []int
	ns := []int{math.MinInt, -1, 0, 1, 2, 3, math.MaxInt}
	for cmp, want := range map[api.Cmp][][]int{
		api.CmpEq: {none, none, none, b, a, none, none},
		api.CmpNe: {all, all, all, a, b, all, all},
		api.CmpLt: {none, none, none, none, b, all, all},
		api.CmpLe: {none, none, none, b, all, all, all},
		api.CmpGt: {all, all, all, a, none, none, none},
		api.CmpGe: {all, all, all, all, a, none, none},
		0:         {none, none, none, none, none, none, none},
		7:         {none, none, none, none, none, none, none},
		-1:        {none, none, none, none, none, none, none},
		1<<32 + 1: {none, none, none, none, none, none, none},
	} {
		for i, n := range ns {
			is(t, fmt.Sprint("Ranked ", cmp, " ", n), d.Ranked("zone", pods, cmp, n), api.MaxNodes, want[i])
			is(t, fmt.Sprint("Ranked of no key ", cmp, " ", n), d.Ranked("none", pods, cmp, n), api.MaxNodes, none)
		}
	}
}

// P1: any text as key or value, any number as slot: every call ends and answers nothing.
func TestAnyArguments(t *testing.T) {
	long := strings.Repeat("z", 1<<20)
	for _, d := range []*domain.Domains{nil, domain.New(), example(t).d} {
		for _, s := range append(slices.Clone(oddTexts), long) {
			for _, slot := range slices.Concat(oddInts, []int{0, 1, 2, 3, 4}) {
				if v, ok := d.Of(s, slot); v != "" || ok {
					t.Errorf("Of(%.20q, %d): %q, %v", s, slot, v, ok)
				}
			}
			is(t, "Nodes", d.Nodes(s, s), api.MaxNodes, nil)
			is(t, "Nodes of zone", d.Nodes("zone", s), api.MaxNodes, nil)
			is(t, "Pods", d.Pods(s, "a"), api.MaxPods, nil)
			is(t, "Pods of zone", d.Pods("zone", s), api.MaxPods, nil)
			is(t, "Near", d.Near(s, set(t, 3, 0, 1, 2)), api.MaxNodes, nil)
			is(t, "Ranked", d.Ranked(s, nil, api.CmpGe, 0), api.MaxNodes, nil)
			gives(t, "Values", d.Values(s), nil)
			gives(t, "Tally", d.Tally(s, nil), nil)
			if d.Count(s, "a", "app", "web")+d.Count("zone", s, "app", "web")+d.Count("zone", "a", s, "web")+d.Count("zone", "a", "app", s) != 0 {
				t.Errorf("Count of %.20q", s)
			}
		}
	}
}
