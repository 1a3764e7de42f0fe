package image_test

import (
	"bytes"
	"errors"
	"math"
	"slices"
	"strconv"
	"strings"
	"testing"

	"berth/api"
	"berth/image"
)

// expectLong holds Encode to refusing a state whose image would be too long.
func expectLong(t *testing.T, name string, s api.State) {
	t.Helper()
	if b, e := image.Encode(s); len(b) > 0 || e != api.ErrImageLong {
		t.Errorf("%s: Encode: %d bytes, %d", name, len(b), e)
	}
}

// expectGreat holds Encode to an image of MaxImage bytes, and Decode of it to the state.
func expectGreat(t *testing.T, name string, s api.State, same func(api.State) bool) {
	t.Helper()
	b, e := image.Encode(s)
	if e != api.OK || len(b) != api.MaxImage {
		t.Fatalf("%s: Encode: %d bytes, %d", name, len(b), e)
	}
	again, err := image.Decode(b)
	if err != nil || !same(again) {
		t.Errorf("%s: Decode: another state, %v", name, err)
	}
	if _, err := image.Decode(append(b, 0)); *err.(*api.Fault) != (api.Fault{Code: api.ErrImageLong, At: -1}) {
		t.Errorf("%s: one byte more: %v", name, err)
	}
	if _, err := image.Decode(b[:len(b)-1]); !errors.Is(err, api.ErrImageSum) {
		t.Errorf("%s: one byte less: %v", name, err)
	}
}

// P26.1 to P26.3: an image of MaxImage bytes is one; one byte more is too long, whether the texts, the lists or the numbers make it so.
func TestLongText(t *testing.T) {
	name := strings.Repeat("x", api.MaxImage-29) // beside it: 6 of the head, 5 counts in the table, 10 of the state, 8 of the sum
	s := api.State{Nodes: []api.Node{{Name: name}}}
	expectGreat(t, "a long text", s, func(again api.State) bool { return alike(again, s) })
	if b, _ := image.Encode(s); !bytes.Equal(b, plain(s)) {
		t.Errorf("a long text: another image")
	}
	expectLong(t, "a text of one more byte", api.State{Nodes: []api.Node{{Name: name + "x"}}})
	expectLong(t, "a number of one more byte", api.State{Now: 64, Nodes: s.Nodes})
	expectLong(t, "one more element", api.State{Nodes: append(s.Nodes, s.Nodes...)})
	expectLong(t, "a text of MaxImage bytes", api.State{Nodes: []api.Node{{Name: strings.Repeat("x", api.MaxImage)}}})
	expectLong(t, "twice as long a text", api.State{Nodes: []api.Node{{Name: name + name}}})
	expectLong(t, "two long texts", api.State{Nodes: []api.Node{{Name: name}, {Name: name + "x"}}})
	for less := range 20 {
		short := api.State{Nodes: []api.Node{{Name: name[less:]}}}
		if b, e := image.Encode(short); e != api.OK || len(b) != api.MaxImage-less {
			t.Errorf("a text of %d bytes less: %d bytes, %d", less, len(b), e)
		}
		expectLong(t, "some bytes more", api.State{Nodes: []api.Node{{Name: name + name[:less+1]}}})
	}
}

// P26.1 to P26.3: the same with a list that is as long as it may be: 38 bytes of other things, and 11 for each item.
func TestLongList(t *testing.T) {
	items := slices.Repeat([]api.Item{{Name: "a", N: math.MinInt}}, (api.MaxImage-38)/11)
	s := api.State{Now: math.MinInt, Nodes: []api.Node{{Name: "a", Cap: items}}}
	expectGreat(t, "a long list", s, func(again api.State) bool {
		return again.Now == s.Now && len(again.Nodes) == 1 && again.Nodes[0].Name == "a" && slices.Equal(again.Nodes[0].Cap, items)
	})
	expectLong(t, "a number of one more byte", api.State{Now: s.Now, Next: -65, Nodes: s.Nodes})
	expectLong(t, "one more element", api.State{Nodes: []api.Node{{Name: "a", Cap: append(items, items[0])}}})
	expectLong(t, "many more", api.State{Nodes: slices.Repeat(s.Nodes, 5)})
}

// P26.1, P26.3: a table of many texts, and one of too many.
func TestLongTable(t *testing.T) {
	var items []api.Item
	for k := range 2000000 {
		items = append(items, api.Item{Name: strconv.Itoa(9000000 - k), N: k})
	}
	checkState(t, api.State{Nodes: []api.Node{{Name: "9000000", Cap: items[:200000]}}})
	s := api.State{Nodes: []api.Node{{Name: "9000000", Cap: items[:1000000]}}}
	b, e := image.Encode(s)
	if e != api.OK {
		t.Fatalf("a million texts: %d", e)
	}
	if again, err := image.Decode(b); err != nil || !slices.Equal(again.Nodes[0].Cap, s.Nodes[0].Cap) {
		t.Errorf("a million texts: Decode: another state, %v", err)
	}
	expectLong(t, "two million texts", api.State{Nodes: []api.Node{{Cap: items}}})
}
