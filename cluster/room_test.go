package cluster_test

import (
	"math"
	"slices"
	"testing"

	"berth/api"
)

// P6.8, P6.15: a capacity of just what is used, and one below it; of several resources the first by name.
func TestResize(t *testing.T) {
	b := made(t)
	b.add(node("n", "cpu", 10, "gpu", 2, "mem", 100))
	b.bind(pod("p", "cpu", 3, "mem", 50), "n")
	b.bind(pod("q", "cpu", 4, "gpu", 1), "n")
	for _, f := range itemFaults {
		ch, err := b.resize("n", f.list)
		is(t, "Resize", ch, err, f.want)
	}
	for _, c := range []struct {
		list []api.Item
		want *api.Fault
	}{
		{items("mem", 50, "cpu", 7, "gpu", 1), nil},
		{items("mem", 50, "cpu", 6, "gpu", 1), wrong(api.ErrBelow, "cpu")},
		{items("mem", 49, "cpu", 7, "gpu", 1), wrong(api.ErrBelow, "mem")},
		{items("mem", 49, "cpu", 7, "gpu", 0), wrong(api.ErrBelow, "gpu")},
		{items("mem", 49, "cpu", 6, "gpu", 0), wrong(api.ErrBelow, "cpu")},
		{items("mem", 1000, "cpu", 1000), wrong(api.ErrBelow, "gpu")},
		{nil, wrong(api.ErrBelow, "cpu")},
		{items("aaa", 5, "zzz", 5), wrong(api.ErrBelow, "cpu")},
		{items("zzz", 5, "mem", 51, "gpu", 1, "cpu", 7, "aaa", 5), nil},
		{items("mem", math.MaxInt, "gpu", 1, "cpu", math.MaxInt), nil},
		{items("mem", 50, "gpu", 1, "cpu", 7, "aaa", 0), nil},
	} {
		ch, err := b.resize("n", c.list)
		is(t, "Resize", ch, err, c.want)
		b.check("Resize")
	}
	if room, ok := b.c.Room("n"); len(room) != 0 || !ok {
		t.Errorf("Room: %v, %v", room, ok)
	}
	b.unbind("q")
	ch, err := b.resize("n", items("cpu", 3, "mem", 50))
	is(t, "Resize behind Unbind", ch, err, nil)
	b.unbind("p")
	ch, err = b.resize("n", nil)
	is(t, "Resize to nothing", ch, err, nil)
	b.check("nothing left")
}

// P6.9, P6.15: a pod that needs just the room that there is, and one more of it; a resource that the capacity doesn't have; of several the first by name.
func TestRoomForOne(t *testing.T) {
	b := made(t)
	b.add(node("n", "cpu", 10, "mem", 100))
	b.bind(pod("first", "cpu", 4), "n")
	for _, c := range []struct {
		needs []api.Item
		want  *api.Fault
	}{
		{items("cpu", 7), wrong(api.ErrNoRoom, "cpu")},
		{items("mem", 101), wrong(api.ErrNoRoom, "mem")},
		{items("mem", 101, "cpu", 7), wrong(api.ErrNoRoom, "cpu")},
		{items("mem", 101, "gpu", 1, "cpu", 6), wrong(api.ErrNoRoom, "gpu")},
		{items("zzz", 1, "mem", 100, "cpu", 6), wrong(api.ErrNoRoom, "zzz")},
		{items("aaa", 1, "mem", 101, "cpu", 7), wrong(api.ErrNoRoom, "aaa")},
		{items("cpu", math.MaxInt), wrong(api.ErrNoRoom, "cpu")},
		{items("gpu", math.MaxInt), wrong(api.ErrNoRoom, "gpu")},
		{items("gpu", 0), nil},
		{items("mem", 100, "cpu", 6), nil},
		{items("cpu", 6), nil},
		{nil, nil},
	} {
		ch, err := b.bind(api.Pod{Name: "p", Needs: c.needs}, "n")
		is(t, "Bind", ch, err, c.want)
		b.check("Bind")
		if c.want == nil {
			b.unbind("p")
		}
	}
	b.bind(pod("p", "cpu", 6), "n")
	if room, _ := b.c.Room("n"); !slices.Equal(room, items("mem", 100)) {
		t.Errorf("Room: %v", room)
	}
	if used, _ := b.c.Used("n"); !slices.Equal(used, cpu(10)) {
		t.Errorf("Used: %v", used)
	}
	ch, err := b.bind(pod("q", "cpu", 1), "n")
	is(t, "Bind of one more", ch, err, wrong(api.ErrNoRoom, "cpu"))
	b.check("no cpu left")
}

// P6.9, P6.15, R1: amounts near the greatest: no sum wraps.
func TestGreatAmounts(t *testing.T) {
	b := made(t)
	b.add(node("n", "cpu", math.MaxInt, "mem", math.MaxInt-1))
	ch, err := b.bind(pod("a", "cpu", math.MaxInt-1, "mem", math.MaxInt), "n")
	is(t, "Bind of one too much", ch, err, wrong(api.ErrNoRoom, "mem"))
	ch, err = b.bind(pod("a", "cpu", math.MaxInt-1, "mem", math.MaxInt-1), "n")
	is(t, "Bind of nearly all", ch, err, nil)
	b.check("nearly all")
	for _, n := range []int{2, 3, 1 << 32, math.MaxInt - 1, math.MaxInt} {
		ch, err = b.bind(pod("b", "cpu", n), "n")
		is(t, "Bind of too much", ch, err, wrong(api.ErrNoRoom, "cpu"))
	}
	for _, n := range []int{1, 1 << 62, math.MaxInt - 2} {
		ch, err = b.resize("n", items("cpu", n, "mem", n))
		is(t, "Resize below", ch, err, wrong(api.ErrBelow, "cpu"))
	}
	ch, err = b.bind(pod("b", "cpu", 1), "n")
	is(t, "Bind of the last", ch, err, nil)
	b.check("all of it")
	ch, err = b.bind(pod("c", "cpu", 1), "n")
	is(t, "Bind of one more", ch, err, wrong(api.ErrNoRoom, "cpu"))
	ch, err = b.resize("n", items("cpu", math.MaxInt-1, "mem", math.MaxInt))
	is(t, "Resize below", ch, err, wrong(api.ErrBelow, "cpu"))
	b.unbind("a")
	b.check("a is gone")
	ch, err = b.resize("n", cpu(1))
	is(t, "Resize to the last", ch, err, nil)
	b.check("the last")
}

// P6.14: Used and Room of every resource that may be, of nodes that are there and of others.
func TestUsedAndRoom(t *testing.T) {
	b := made(t)
	b.add(api.Node{Name: "n", Cap: manyItems(16, 3)})
	b.add(node("m"))
	b.bind(pod("p", "r3", 3, "r0", 1), "n")
	b.bind(api.Pod{Name: "q", Needs: manyItems(15, 0)}, "n")
	b.bind(pod("r", "r0", 2, "r9", 1), "n")
	b.check("sixteen resources")
	if used, ok := b.c.Used("n"); !ok || !slices.Equal(used, items("r0", 3, "r3", 3, "r9", 1)) {
		t.Errorf("Used: %v, %v", used, ok)
	}
	if room, ok := b.c.Room("n"); !ok || len(room) != 14 || !slices.Contains(room, api.Item{Name: "r9", N: 2}) {
		t.Errorf("Room: %v, %v", room, ok)
	}
	for name, there := range map[string]bool{"m": true, "p": false, "": false} {
		used, ok := b.c.Used(name)
		room, too := b.c.Room(name)
		if len(used) != 0 || len(room) != 0 || ok != there || too != there {
			t.Errorf("of %q: %v, %v, %v, %v", name, used, ok, room, too)
		}
	}
}
