package domain_test

import (
	"fmt"
	"iter"
	"slices"
	"testing"

	"berth/api"
	"berth/domain"
)

// walks are the two walks over a key of the street, with what they must give.
func walks(t *testing.T, b both) map[string]func(key string) (iter.Seq2[string, int], []step) {
	t.Helper()
	pods := set(t, api.MaxPods)
	for slot := range b.m.pods {
		if slot%2 == 0 {
			pods.Add(slot)
		}
	}
	return map[string]func(key string) (iter.Seq2[string, int], []step){
		"Values": func(key string) (iter.Seq2[string, int], []step) { return b.d.Values(key), b.m.values(key) },
		"Tally":  func(key string) (iter.Seq2[string, int], []step) { return b.d.Tally(key, pods), b.m.tally(key, pods) },
	}
}

// P9.4, P9.7, R8: a walk may be broken off at each place and gone over again; who stops gets no more.
func TestWalks(t *testing.T) {
	for what, call := range walks(t, street(t)) {
		walk, want := call("row")
		if len(want) != 8 {
			t.Fatalf("%s: %v", what, want)
		}
		for stop := range len(want) + 2 {
			var got []step
			walk(func(value string, n int) bool {
				got = append(got, step{value, n})
				return len(got) < stop
			})
			if !slices.Equal(got, want[:max(1, min(stop, len(want)))]) {
				t.Errorf("%s broken off at %d: %v", what, stop, got)
			}
			gives(t, fmt.Sprint(what, " again behind ", stop), walk, want)
		}
	}
}

// P9.4, P9.7, R8: walks within themselves and within each other; an inner walk that is left doesn't end the outer one.
func TestWalksWithin(t *testing.T) {
	b := street(t)
	all := walks(t, b)
	for what, call := range all {
		walk, want := call("row")
		for other, inner := range all {
			steps := 0
			for value, n := range walk {
				if (step{value, n}) != want[steps] {
					t.Errorf("%s: step %d gives %q %d", what, steps, value, n)
				}
				gives(t, what+" within itself", walk, want)
				late, wantLate := inner("odd")
				gives(t, other+" within "+what, late, wantLate)
				for range walk {
					break
				}
				for range late {
					break
				}
				steps++
			}
			if steps != len(want) {
				t.Errorf("%s: %d steps", what, steps)
			}
		}
	}
	b.check("walked")
}

// changes are changes of the street that any walk over row might see.
func changes() map[string]func(b both, step int) {
	return map[string]func(b both, step int){
		"a node more in a domain":   func(b both, step int) { b.addNode(300+step, tags("row", "b")...) },
		"a domain more ahead":       func(b both, step int) { b.addNode(300+step, tags("row", fmt.Sprint("A", step))...) },
		"a domain more behind":      func(b both, step int) { b.addNode(300+step, tags("row", fmt.Sprint("x", step))...) },
		"a pod more":                func(b both, step int) { b.addPod(3+step, 73, tags("app", "web")...) },
		"a node without the key":    func(b both, step int) { b.setNode(step%8*73, tags("all", "")...) },
		"a node in another domain":  func(b both, step int) { b.setNode(step%8*73, tags("row", "z")...) },
		"a pod less":                func(b both, step int) { b.dropPod(1, 8); b.dropPod(0, 73) },
		"a node less, with its pod": func(b both, step int) { b.dropPod(1, 8); b.dropNode(8); b.dropNode(0) },
		"all gone": func(b both, step int) {
			for slot, p := range b.m.pods {
				b.dropPod(slot, p.node)
			}
			for slot := range b.m.nodes {
				b.dropNode(slot)
			}
		},
	}
}

// P9.4, P9.7, R8: whatever is changed ahead of a walk or in its midst, it gives what stood at its call.
func TestWalkTellsOfThen(t *testing.T) {
	for kind, change := range changes() {
		for _, what := range []string{"Values", "Tally"} {
			b := street(t)
			walk, want := walks(t, b)[what]("row")
			change(b, 0)
			gives(t, what+" ahead: "+kind, walk, want)
			b.check(kind)

			b = street(t)
			walk, want = walks(t, b)[what]("row")
			var got []step
			for value, n := range walk {
				got = append(got, step{value, n})
				change(b, len(got))
			}
			if !slices.Equal(got, want) {
				t.Errorf("%s in the midst: %s: %v, want %v", what, kind, got, want)
			}
			gives(t, what+" again: "+kind, walk, want)
			b.check(kind)
		}
	}
}

// P9.7, R6, R8: a change of the set that was handed in, ahead of the walk or in its midst, isn't seen.
func TestTallyKeepsNoSet(t *testing.T) {
	d := example(t).d
	want := []step{{"a", 2}, {"b", 1}}
	pods := set(t, 4, 0, 1, 3)
	walk := d.Tally("zone", pods)
	pods.Remove(0)
	gives(t, "ahead", walk, want)
	pods.Add(0)
	walk = d.Tally("zone", pods)
	var got []step
	for value, n := range walk {
		got = append(got, step{value, n})
		pods.Remove(3)
		pods.Remove(1)
	}
	if !slices.Equal(got, want) {
		t.Errorf("in the midst: %v", got)
	}
	gives(t, "again", walk, want)
	gives(t, "anew", d.Tally("zone", pods), []step{{"a", 1}, {"b", 0}})
}

// R8: a walk over nothing is no nil, gives nothing, and goes on giving nothing when something comes later.
func TestWalkOverNothing(t *testing.T) {
	var none *domain.Domains
	for _, d := range []*domain.Domains{none, domain.New(), example(t).d} {
		for _, walk := range []iter.Seq2[string, int]{d.Values("rack"), d.Values(""), d.Tally("rack", nil), d.Tally("", set(t, 4, 0, 1))} {
			if walk == nil {
				t.Fatal("a walk is nil")
			}
			d.Apply(nodeAdd(9, tags("rack", "1")...))
			gives(t, "nothing", walk, nil)
			d.Apply(nodeDel(9))
		}
	}
	answers(t, "nil", none.Apply(nodeAdd(9)), api.ErrNil)
}
