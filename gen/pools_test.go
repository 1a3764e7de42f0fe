package gen_test

import (
	"fmt"
	"slices"
	"strings"
	"testing"

	"berth/api"
)

// anyOf is a dag whose Root is a DOr of these literals for nodes, with s as the selector in the place 0.
func anyOf(lits ...api.Lit) api.Dag {
	parts := []api.DagPart{s}
	var kids []int
	for _, l := range lits {
		kids = append(kids, len(parts))
		parts = append(parts, leaf(l))
	}
	if len(kids) == 1 {
		return dag(parts...)
	}
	return dag(append(parts, node(api.DOr, kids...))...)
}

// pools: which constants a program has.
func pools(t *testing.T, d api.Dag, texts []string, nums []int, sets [][]string, numSets [][]int) {
	t.Helper()
	p := check(t, d)
	got, want := fmt.Sprintf("%q %d %q %d", p.Texts, p.Nums, p.Sets, p.NumSets), fmt.Sprintf("%q %d %q %d", texts, nums, sets, numSets)
	if got != want {
		t.Errorf("%s: %s, want %s", toldDag(d), got, want)
	}
}

// P19.2: Texts holds each text that an instruction names, whichever that is, rising by bytes.
func TestTexts(t *testing.T) {
	pod := func(key string) api.Term { return labelTerm(api.OfPod, key) }
	pools(t, dag(tolerant("b"), tolerant("a"), node(api.DAnd, 0, 1)), []string{"a", "b"}, nil, nil, nil)
	pools(t, anyOf(tol("k"), hasKey("k"), near("k", 0), inTaints(textTerm("k")), inTaints(pod("k")), rel(capTerm("k"), api.CmpLe, 1), beside(labelTerm(api.OfNode, "k"), api.CmpEq, pod("k"))), []string{"k", "x"}, []int{1}, [][]string{{"1"}}, nil)
	pools(t, anyOf(inTaints(textTerm("g")), inTaints(pod("f")), nums(capTerm("e"), 1), rel(capTerm("d"), api.CmpLe, 1), beside(numTerm(api.OfNode, "c"), api.CmpLt, numTerm(api.OfPod, "b")), tol("a")), []string{"a", "b", "c", "d", "e", "f", "g"}, []int{1}, nil, [][]int{{1}})
	// bytes, not letters; the empty text
	odd := []string{"", "\x00", " ", "0", "10", "9", "A", "Z", "a", "aa", "ab", "b", "b\x00", "z", "\x7f", "\x80", "é", "\xff", "\xff\xff"}
	var lits []api.Lit
	for i := range odd {
		lits = append(lits, tol(odd[len(odd)-1-i]), hasKey(odd[i]))
	}
	pools(t, anyOf(lits...), odd, nil, nil, nil)
	// the longest
	long := strings.Repeat("k", 127)
	pools(t, anyOf(tol(long)), []string{long}, nil, nil, nil)
	pools(t, anyOf(tol(long), tol(long[:126]), tol(long[:126]+"l")), []string{long[:126], long, long[:126] + "l"}, nil, nil, nil)
}

func tolerant(effect string) api.DagPart { return leaf(tol(effect)) }

// P19.2: what no instruction names is in no list: elements of sets, names, what isn't reached or isn't written.
func TestWhatIsNotNamed(t *testing.T) {
	pools(t, anyOf(zone("b", "c")), []string{"zone"}, nil, [][]string{{"b", "c"}}, nil)
	pools(t, anyOf(zone("zone")), []string{"zone"}, nil, [][]string{{"zone"}}, nil)
	pools(t, anyOf(texts(nameTerm(api.OfNode), "a")), nil, nil, [][]string{{"a"}}, nil)
	pools(t, anyOf(cores(1, 2)), []string{"cores"}, nil, nil, [][]int{{1, 2}})
	pools(t, anyOf(zone()), nil, nil, nil, nil)
	pools(t, anyOf(cores(), nums(capTerm("cpu")), texts(nameTerm(api.OfPod)), counted(0)), nil, nil, nil, nil)
	pools(t, rooted(1, leaf(zone("b")), a, leaf(rel(capTerm("cpu"), api.CmpLe, 3)), leaf(cores(4)), s, leaf(near("y", 4))), []string{"a"}, nil, nil, nil)
	pools(t, dag(yes, no, node(api.DAnd, 0, 1)), nil, nil, nil, nil)
	pools(t, dag(s, leaf(counted(0)), leaf(tol("b")), node(api.DAnd, 1, 2)), []string{"b"}, nil, nil, nil)
	// the number 0 of a literal that has no number isn't one
	pools(t, anyOf(beside(capTerm("cpu"), api.CmpLe, numTerm(api.OfPod, "m"))), []string{"cpu", "m"}, nil, nil, nil)
	pools(t, anyOf(rel(capTerm("cpu"), api.CmpLe, 0)), []string{"cpu"}, []int{0}, nil, nil)
}

// P19.2: Nums rise by value, each once, whichever literals name them.
func TestNums(t *testing.T) {
	n, m := numTerm(api.OfNode, "n"), numTerm(api.OfPod, "n")
	pools(t, anyOf(rel(n, api.CmpLe, 3), rel(m, api.CmpGe, 3), rel(capTerm("n"), api.CmpLe, 3), rel(countTerm("n", 0), api.CmpLe, 3)), []string{"n", "x"}, []int{3}, [][]string{{"1"}}, nil)
	var lits []api.Lit
	want := []int{-most - 1, -most, -10, -9, -1, 0, 1, 9, 10, 100, most, most + 1}
	for i, k := range want {
		c := api.CmpLe
		if k > 0 {
			c = api.CmpGe
		}
		lits = append(lits, rel(n, c, k), rel(m, c, k))
		if i%2 == 0 {
			lits = append(lits, rel(capTerm("n"), c, k))
		}
	}
	slices.Reverse(lits)
	pools(t, anyOf(lits...), []string{"n"}, want, nil, nil)
	// a set of one number is no number
	pools(t, anyOf(nums(n, 3), rel(n, api.CmpLe, 3)), []string{"n"}, []int{3}, nil, [][]int{{3}})
}

// P19.2: sets by their first unlike elements; where one is the beginning of another, the shorter one is ahead; each once.
func TestSets(t *testing.T) {
	want := [][]string{{""}, {"", "a"}, {"", "b"}, {"A"}, {"a"}, {"a", "aa"}, {"a", "b"}, {"a", "b", "c"}, {"a", "b", "d"}, {"a", "c"}, {"aa"}, {"ab"}, {"b"}, {"b", "c"}, {"é"}}
	var lits []api.Lit
	for i := range want {
		lits = append(lits, zone(want[len(want)-1-i]...), texts(nameTerm(api.OfPod), want[i]...))
	}
	pools(t, anyOf(lits...), []string{"zone"}, nil, want, nil)
	numbers := [][]int{{-10}, {-9}, {-9, -8}, {-1}, {-1, 5}, {-1, 5, 6}, {-1, 6}, {-1, 10}, {0}, {0, 1}, {2}, {9, 10}, {10}, {10, 11, 12}, {100}}
	lits = nil
	for i := range numbers {
		lits = append(lits, cores(numbers[len(numbers)-1-i]...), nums(capTerm("cores"), numbers[i]...))
	}
	pools(t, anyOf(lits...), []string{"cores"}, nil, nil, numbers)
	// one set that parts for nodes and for pods name, of each term that there is
	its := dag(forPods(leaf(texts(labelTerm(api.OfIt, "k"), "v"))), forPods(leaf(texts(nameTerm(api.OfIt), "v"))), forPods(node(api.DAnd, 0, 1)), leaf(nums(countTerm("k", 2), 7)), leaf(texts(nameTerm(api.OfNode), "v")), leaf(nums(numTerm(api.OfPod, "k"), 7)), leaf(nums(capTerm("k"), 7)), node(api.DOr, 3, 4, 5, 6))
	pools(t, its, []string{"k"}, nil, [][]string{{"v"}}, [][]int{{7}})
}

// P19.2: all orders of a few literals have the same lists.
func TestPoolsInEveryOrder(t *testing.T) {
	lits := []api.Lit{zone("a"), zone("a", "b"), cores(1, 2), rel(capTerm("c"), api.CmpLe, 2), beside(numTerm(api.OfNode, "b"), api.CmpEq, numTerm(api.OfPod, "a"))}
	var order func(done, left []api.Lit)
	n := 0
	order = func(done, left []api.Lit) {
		if len(left) == 0 {
			n++
			pools(t, anyOf(done...), []string{"a", "b", "c", "cores", "zone"}, []int{2}, [][]string{{"a"}, {"a", "b"}}, [][]int{{1, 2}})
		}
		for i := range left {
			order(append(slices.Clone(done), left[i]), slices.Delete(slices.Clone(left), i, i+1))
		}
	}
	order(nil, lits)
	if n != 120 {
		t.Error(n)
	}
}

// P19.2, R5: nil and empty lists mean the same, handed in.
func TestEmptyListsInDags(t *testing.T) {
	for _, x := range forNodes() {
		parts := []api.DagPart{s, leaf(x.l), yes, node(api.DNot, 1), node(api.DAnd, 1, 2, 3)}
		first := check(t, dag(parts...))
		for i := range parts {
			part := &parts[i]
			part.Kids, part.Lit.Texts, part.Lit.Nums = append([]int{}, part.Kids...), append([]string{}, part.Lit.Texts...), append([]int{}, part.Lit.Nums...)
		}
		if second := check(t, dag(parts...)); !sameProgram(first, second) {
			t.Errorf("%s, then %s", told(first), told(second))
		}
	}
}
