package image_test

import (
	"bytes"
	"math"
	"slices"
	"strconv"
	"strings"
	"testing"

	"berth/api"
)

// numberForms has numbers with the bytes of their counts, written out.
var numberForms = []struct {
	n    int
	form []byte
}{
	{0, []byte{0}},
	{-1, []byte{1}},
	{1, []byte{2}},
	{63, []byte{0x7e}},
	{-64, []byte{0x7f}},
	{64, []byte{0x80, 1}},
	{-65, []byte{0x81, 1}},
	{8191, []byte{0xfe, 0x7f}},
	{-8192, []byte{0xff, 0x7f}},
	{8192, []byte{0x80, 0x80, 1}},
	{1<<20 - 1, []byte{0xfe, 0xff, 0x7f}},
	{1 << 27, []byte{0x80, 0x80, 0x80, 0x80, 1}},
	{1 << 34, []byte{0x80, 0x80, 0x80, 0x80, 0x80, 1}},
	{1 << 41, []byte{0x80, 0x80, 0x80, 0x80, 0x80, 0x80, 1}},
	{1 << 48, []byte{0x80, 0x80, 0x80, 0x80, 0x80, 0x80, 0x80, 1}},
	{1<<62 - 1, []byte{0xfe, 0xff, 0xff, 0xff, 0xff, 0xff, 0xff, 0xff, 0x7f}},
	{-1 << 62, []byte{0xff, 0xff, 0xff, 0xff, 0xff, 0xff, 0xff, 0xff, 0x7f}},
	{1 << 62, []byte{0x80, 0x80, 0x80, 0x80, 0x80, 0x80, 0x80, 0x80, 0x80, 1}},
	{math.MaxInt, []byte{0xfe, 0xff, 0xff, 0xff, 0xff, 0xff, 0xff, 0xff, 0xff, 1}},
	{math.MinInt, []byte{0xff, 0xff, 0xff, 0xff, 0xff, 0xff, 0xff, 0xff, 0xff, 1}},
}

// P26.1, P26.3: each number has its one form, in each field that is a number.
func TestNumbers(t *testing.T) {
	for _, c := range numberForms {
		want := slices.Concat(begin, []byte{0}, c.form, c.form, []byte{0, 0, 0})
		if b := checkState(t, api.State{Now: c.n, Next: c.n}); !bytes.Equal(b, sealed(want)) {
			t.Errorf("Now and Next %d: % x", c.n, b)
		}
		item, prefer := []api.Item{{N: c.n}}, []api.Prefer{{Weight: c.n}}
		pod := api.Pod{Needs: item, Prefer: prefer, Priority: c.n}
		want = slices.Concat(begin, []byte{1, 0, 0, 0, 1, 0, 0, 0, 1, 0}, c.form, []byte{0}, // the node
			[]byte{1, 0, 0, 1, 0}, c.form, []byte{0, 0, 0, 1}, c.form, []byte{0}, c.form, []byte{0}, // the bound pod
			[]byte{1, 0, 0, 1, 0}, c.form, []byte{0, 0, 0, 1}, c.form, []byte{0}, c.form, c.form, c.form, c.form, []byte{0})
		s := api.State{
			Nodes:   []api.Node{{Cap: item}},
			Bound:   []api.Bound{{Pod: pod}},
			Pending: []api.Pending{{Pod: pod, Seq: c.n, Tries: c.n, Until: c.n}},
		}
		if b := checkState(t, s); !bytes.Equal(b, sealed(want)) {
			t.Errorf("a state of %d: % x, want % x", c.n, b, sealed(want))
		}
	}
}

// P26.1, P26.3: numbers around all powers of two.
func TestNumbersAroundPowers(t *testing.T) {
	for shift := range 64 {
		for off := -2; off <= 2; off++ {
			n := 1<<shift + off
			checkState(t, api.State{Now: n, Next: -n})
		}
	}
}

// P26.1, P26.3: a bool is a byte 0 or 1, in both fields that are bools.
func TestBools(t *testing.T) {
	for _, c := range []struct{ cordoned, asleep bool }{{}, {true, false}, {false, true}, {true, true}} {
		checkState(t, api.State{Nodes: []api.Node{{Cordoned: c.cordoned}, {}}, Pending: []api.Pending{{Asleep: c.asleep}, {}}})
	}
}

// everyField is a state of one node, one bound and one pending pod, each of whose 32 texts is made anew.
func everyField(next func() string) api.State {
	labels := func() []api.Label { return []api.Label{{Key: next(), Value: next()}} }
	items := func() []api.Item { return []api.Item{{Name: next(), N: 1}} }
	pod := func() api.Pod {
		return api.Pod{Name: next(), Labels: labels(), Needs: items(),
			Tolerations: []api.Toleration{{Key: next(), Op: next(), Value: next(), Effect: next()}}, Require: next(),
			Apart: []api.Apart{{Topo: next(), Select: next()}}, Prefer: []api.Prefer{{Weight: 2, Text: next()}}, Priority: 3}
	}
	return api.State{
		Nodes:   []api.Node{{Name: next(), Labels: labels(), Taints: []api.Taint{{Key: next(), Value: next(), Effect: next()}}, Cap: items()}},
		Bound:   []api.Bound{{Pod: pod(), Node: next()}},
		Pending: []api.Pending{{Pod: pod(), Seq: 4, Tries: 5, Until: 6, Asleep: true}},
	}
}

// texts makes a function that gives the texts in turn, from the one at first on, over and over.
func texts(first int, list ...string) func() string {
	k := first - 1
	return func() string {
		k++
		return list[k%len(list)]
	}
}

// P26.1, P26.3: each field that is a text is told by its place in the table, be the texts all alike, two, or all unlike.
func TestTextsInAllFields(t *testing.T) {
	many := make([]string, 32)
	for k := range many {
		many[k] = "text" + strconv.Itoa(k)
	}
	for first := range 32 {
		checkState(t, everyField(texts(first, many...)))
		slices.Reverse(many)
		checkState(t, everyField(texts(first, many...)))
		alone := make([]string, 32)
		alone[first] = "x"
		checkState(t, everyField(texts(0, alone...)))
	}
	checkState(t, everyField(texts(0, "alike")))
	checkState(t, everyField(texts(0, "")))
	checkState(t, everyField(texts(0, "b", "a")))
}

// P26.1: the table has the texts that are used and no other ones, the empty one too where it is used, rising by their bytes.
func TestTable(t *testing.T) {
	node := func(name string) api.Node { return api.Node{Name: name} }
	nodes := func(names ...string) []byte {
		s := api.State{}
		for _, name := range names {
			s.Nodes = append(s.Nodes, node(name))
		}
		return checkState(t, s)
	}
	for _, c := range []struct {
		names []string
		want  []byte
	}{
		{[]string{"a", ""}, body(2, 0, 1, 'a', 0, 0, 2, 1, 0, 0, 0, 0, 0, 0, 0, 0, 0, 0, 0)},
		{[]string{"a", "a"}, body(1, 1, 'a', 0, 0, 2, 0, 0, 0, 0, 0, 0, 0, 0, 0, 0, 0, 0)},
		{[]string{"ab", "a"}, body(2, 1, 'a', 2, 'a', 'b', 0, 0, 2, 1, 0, 0, 0, 0, 0, 0, 0, 0, 0, 0, 0)},
		{[]string{"a", "B"}, body(2, 1, 'B', 1, 'a', 0, 0, 2, 1, 0, 0, 0, 0, 0, 0, 0, 0, 0, 0, 0)},
		{[]string{"\xff", "\x00", "ä"}, body(3, 1, 0, 2, 0xc3, 0xa4, 1, 0xff, 0, 0, 3, 2, 0, 0, 0, 0, 0, 0, 0, 0, 0, 1, 0, 0, 0, 0, 0, 0)},
		{[]string{"\xef\xbf\xbd", "\xed\xa0\x80", "\xf0"}, body(3, 3, 0xed, 0xa0, 0x80, 3, 0xef, 0xbf, 0xbd, 1, 0xf0, 0, 0, 3, 1, 0, 0, 0, 0, 0, 0, 0, 0, 0, 2, 0, 0, 0, 0, 0, 0)},
	} {
		if b := nodes(c.names...); !bytes.Equal(b, c.want) {
			t.Errorf("nodes %q: % x, want % x", c.names, b, c.want)
		}
	}
}

// P26.1, P26.3: texts whose counts of bytes, and whose places, take one, two and three bytes.
func TestLongTextsAndManyTexts(t *testing.T) {
	for _, size := range []int{0, 1, 126, 127, 128, 129, 4096, 16383, 16384, 100000} {
		checkState(t, everyField(texts(0, strings.Repeat("x", size), strings.Repeat("x", size)+"y")))
	}
	for _, many := range []int{126, 127, 128, 129, 16383, 16384, 16385} {
		s := api.State{}
		for k := range many {
			s.Nodes = append(s.Nodes, api.Node{Name: strconv.Itoa(k * 7919 % many)})
		}
		checkState(t, s)
	}
}

// stretched is a state whose one list, of the eleven kinds of lists in their places, has so many elements.
func stretched(list, size int) api.State {
	n, b, p := api.Node{Name: "n"}, api.Bound{Node: "n"}, api.Pending{Seq: 1}
	b.Pod.Name, p.Pod.Name = "b", "p"
	for _, pod := range []*api.Pod{&b.Pod, &p.Pod} {
		switch list {
		case 3:
			pod.Labels = make([]api.Label, size)
		case 4:
			pod.Needs = make([]api.Item, size)
		case 5:
			pod.Tolerations = make([]api.Toleration, size)
		case 6:
			pod.Apart = make([]api.Apart, size)
		case 7:
			pod.Prefer = make([]api.Prefer, size)
		}
	}
	switch list {
	case 0:
		n.Labels = make([]api.Label, size)
	case 1:
		n.Taints = make([]api.Taint, size)
	case 2:
		n.Cap = make([]api.Item, size)
	case 8:
		return api.State{Nodes: slices.Repeat([]api.Node{n}, size)}
	case 9:
		return api.State{Bound: slices.Repeat([]api.Bound{b}, size)}
	case 10:
		return api.State{Pending: slices.Repeat([]api.Pending{p}, size)}
	}
	return api.State{Nodes: []api.Node{n}, Bound: []api.Bound{b}, Pending: []api.Pending{p}}
}

// P26.1, P26.3, R5: each list, empty, of some elements, and of so many that their count takes two and three bytes.
func TestListsOfAllSizes(t *testing.T) {
	for list := range 11 {
		for _, size := range []int{0, 1, 2, 3, 127, 128, 129, 16383, 16384} {
			checkState(t, stretched(list, size))
		}
	}
}

// R5, P26.1: a list that is nil and one that is empty, with and without spare room, have the same image.
func TestNilAndEmptyAreOne(t *testing.T) {
	want := checkState(t, api.State{Nodes: make([]api.Node, 1), Bound: make([]api.Bound, 1), Pending: make([]api.Pending, 1)})
	pod := api.Pod{Labels: []api.Label{}, Needs: []api.Item{}, Tolerations: make([]api.Toleration, 0, 3), Apart: []api.Apart{}, Prefer: []api.Prefer{}}
	s := api.State{
		Nodes:   []api.Node{{Labels: make([]api.Label, 0, 9), Taints: []api.Taint{}, Cap: []api.Item{}}},
		Bound:   []api.Bound{{Pod: pod}},
		Pending: []api.Pending{{Pod: pod}},
	}
	if b := checkState(t, s); !bytes.Equal(b, want) {
		t.Errorf("empty lists: % x, want % x", b, want)
	}
	empty := api.State{Nodes: []api.Node{}, Bound: []api.Bound{}, Pending: []api.Pending{}}
	if b := checkState(t, empty); !bytes.Equal(b, body(0, 0, 0, 0, 0, 0)) {
		t.Errorf("a state of empty lists: % x", b)
	}
}

// P26.1, P26.3: the order in which a state's lists stand is kept, doubles too, whether it makes sense or not.
func TestAnyOrder(t *testing.T) {
	labels := []api.Label{{Key: "z", Value: "1"}, {Key: "a", Value: "2"}, {Key: "z", Value: "1"}, {Key: "a", Value: "1"}}
	items := []api.Item{{Name: "mem", N: -4}, {Name: "cpu", N: 0}, {Name: "mem", N: 4}}
	taints := []api.Taint{{Key: "k", Effect: "no effect"}, {Key: "k", Effect: api.NoExecute}, {Key: "b"}, {Key: "k", Effect: "no effect"}}
	pods := []api.Pod{{Name: "q", Labels: labels, Needs: items, Require: "&&"}, {Name: "p", Priority: -1}, {Name: "q"}}
	s := api.State{Now: -3, Next: -7}
	for k, pod := range pods {
		s.Nodes = append(s.Nodes, api.Node{Name: pod.Name, Labels: labels[k:], Taints: taints[k:], Cap: items[k:]})
		s.Bound = append(s.Bound, api.Bound{Pod: pod, Node: "nowhere"})
		s.Pending = append(s.Pending, api.Pending{Pod: pod, Seq: 9 - k, Tries: -k})
	}
	checkState(t, s)
	slices.Reverse(s.Nodes)
	slices.Reverse(s.Bound)
	slices.Reverse(s.Pending)
	checkState(t, s)
}
