package image_test

import (
	"bytes"
	"reflect"
	"slices"
	"strings"
	"sync"
	"testing"

	"berth/api"
	"berth/image"
)

// overwrite fills all lists of a value, their spare room too, with what no state of these tests has. Strings can't be written into.
func overwrite(v reflect.Value) {
	switch v.Kind() {
	case reflect.Struct:
		for i := range v.NumField() {
			overwrite(v.Field(i))
		}
	case reflect.Slice:
		for i := range v.Len() {
			overwrite(v.Index(i))
		}
		whole := v.Slice(0, v.Cap())
		for i := range whole.Len() {
			fill(whole.Index(i))
		}
	}
}

func fill(v reflect.Value) {
	switch v.Kind() {
	case reflect.Struct:
		for i := range v.NumField() {
			fill(v.Field(i))
		}
	case reflect.Slice:
		v.SetZero()
	case reflect.String:
		v.SetString("overwritten")
	case reflect.Int:
		v.SetInt(-77)
	case reflect.Bool:
		v.SetBool(true)
	}
}

// roomy is a state whose lists have spare room, with marks in it.
func roomy(r chance) api.State {
	s := r.state()
	s.Nodes = append(s.Nodes, r.node(), r.node(), api.Node{Name: "spare"})
	s.Bound = append(s.Bound, api.Bound{Pod: r.pod()}, api.Bound{Node: "spare"})
	s.Pending = append(s.Pending, api.Pending{Pod: r.pod()}, api.Pending{Seq: 99})
	s.Nodes[0].Labels = append(s.Nodes[0].Labels, r.label(), api.Label{Key: "spare"})[:1]
	s.Nodes[0].Cap = append(s.Nodes[0].Cap, r.item(), api.Item{Name: "spare"})[:1]
	return api.State{Now: s.Now, Next: s.Next, Nodes: s.Nodes[:len(s.Nodes)-1], Bound: s.Bound[:len(s.Bound)-1], Pending: s.Pending[:len(s.Pending)-1]}
}

// whole is a state with the spare room of the lists that roomy gives some.
func whole(s api.State) []any {
	lists := flat(s)
	lists = append(lists, flat(s.Nodes[:cap(s.Nodes)])...)
	lists = append(lists, flat(s.Bound[:cap(s.Bound)])...)
	lists = append(lists, flat(s.Pending[:cap(s.Pending)])...)
	lists = append(lists, flat(s.Nodes[0].Labels[:cap(s.Nodes[0].Labels)])...)
	return append(lists, flat(s.Nodes[0].Cap[:cap(s.Nodes[0].Cap)])...)
}

// R6: the state that is handed in to Encode stays as it is, spare room included; the image stays when the state is written over.
func TestStateHandedIn(t *testing.T) {
	for seed := range uint64(200) {
		s := roomy(newChance(seed))
		was := whole(s)
		want := checkState(t, s)
		if !slices.Equal(whole(s), was) {
			t.Fatalf("seed %d: the state is changed", seed)
		}
		b, _ := image.Encode(s)
		overwrite(reflect.ValueOf(&s).Elem())
		if !bytes.Equal(b, want) {
			t.Fatalf("seed %d: the image changes with the state", seed)
		}
	}
}

// R6: the image is new memory, its spare room too.
func TestImageIsNew(t *testing.T) {
	for seed := range uint64(200) {
		s := newChance(seed).state()
		want := plain(s)
		first, _ := image.Encode(s)
		second, _ := image.Encode(s)
		for i := range first[:cap(first)] {
			first[:cap(first)][i] = 0xee
		}
		if !bytes.Equal(second, want) {
			t.Fatalf("seed %d: two images share memory", seed)
		}
		checkState(t, s)
	}
}

// R6: the bytes that are handed in to Decode stay as they are, spare room included; the state stays when they are written over.
func TestBytesHandedIn(t *testing.T) {
	for seed := range uint64(200) {
		want := newChance(seed).state()
		b := append(plain(want), "spare room"...)
		was := slices.Clone(b)
		s, err := image.Decode(b[:len(b)-10])
		if err != nil || !bytes.Equal(b, was) {
			t.Fatalf("seed %d: %v, the bytes are changed", seed, err)
		}
		for i := range b {
			b[i] = 0xee
		}
		if !alike(s, want) {
			t.Fatalf("seed %d: the state changes with the bytes", seed)
		}
		bad := append(was[:len(was)-20:len(was)-20], "spare room"...)
		was = slices.Clone(bad)
		if _, err := image.Decode(bad[:len(bad)-10]); err == nil || !bytes.Equal(bad, was) {
			t.Fatalf("seed %d: refused bytes are changed: %v", seed, err)
		}
	}
}

// everyList calls visit with each list of a value, those within others too.
func everyList(v reflect.Value, visit func(reflect.Value)) {
	switch v.Kind() {
	case reflect.Struct:
		for i := range v.NumField() {
			everyList(v.Field(i), visit)
		}
	case reflect.Slice:
		visit(v)
		for i := range v.Len() {
			everyList(v.Index(i), visit)
		}
	}
}

// R6: the lists of a state share memory neither with one another nor with those of another answer, spare room included.
func TestListsOfAStateAreNew(t *testing.T) {
	for seed := range uint64(60) {
		want := newChance(seed).state()
		b := plain(want)
		first, _ := image.Decode(b)
		second, _ := image.Decode(b)
		everyList(reflect.ValueOf(&first).Elem(), func(v reflect.Value) {
			for i := v.Len(); i < v.Cap(); i++ {
				fill(v.Slice(0, v.Cap()).Index(i))
			}
		})
		if !alike(first, want) || !alike(second, want) {
			t.Fatalf("seed %d: a list's spare room is shared", seed)
		}
		overwrite(reflect.ValueOf(&first).Elem())
		if !alike(second, want) {
			t.Fatalf("seed %d: two states share memory", seed)
		}
	}
}

// R9: calls side by side, on one state and on the same bytes, answer as alone.
func TestCallsSideBySide(t *testing.T) {
	s := newChance(7).state()
	s.Nodes = append(s.Nodes, api.Node{Name: strings.Repeat("x", 5000)})
	want := plain(s)
	var every sync.WaitGroup
	for range 8 {
		every.Go(func() {
			for range 30 {
				b, e := image.Encode(s)
				again, err := image.Decode(want)
				if e != api.OK || !bytes.Equal(b, want) || err != nil || !alike(again, s) {
					t.Errorf("%d, %v", e, err)
				}
				if _, err := image.Decode(want[:len(want)-1]); err == nil {
					t.Errorf("a beginning is taken")
				}
			}
		})
	}
	every.Wait()
}
