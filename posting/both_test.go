package posting_test

import (
	"strconv"
	"testing"

	"berth/api"
	"berth/posting"
)

// both is an index and its model: each call goes to both, and what they answer is held against each other.
type both struct {
	t *testing.T
	x *posting.Index
	m *model
}

func made(t *testing.T, size int) both {
	t.Helper()
	x, err := posting.New(size)
	if x == nil || err != api.OK {
		t.Fatalf("New(%d): %v, %d", size, x, err)
	}
	return both{t, x, newModel(size)}
}

func (b both) put(slot int, list ...api.Label) api.Errno {
	b.t.Helper()
	return b.hold("Put", slot, list, b.x.Put(slot, list), b.m.put(slot, list))
}

func (b both) set(slot int, list ...api.Label) api.Errno {
	b.t.Helper()
	return b.hold("Set", slot, list, b.x.Set(slot, list), b.m.set(slot, list))
}

func (b both) drop(slot int) api.Errno {
	b.t.Helper()
	return b.hold("Drop", slot, nil, b.x.Drop(slot), b.m.drop(slot))
}

func (b both) hold(call string, slot int, list []api.Label, got, want api.Errno) api.Errno {
	b.t.Helper()
	if got != want {
		b.t.Fatalf("%s(%d, %v) = %d, want %d", call, slot, list, got, want)
	}
	return got
}

func (b both) check(when string) {
	b.t.Helper()
	check(b.t, when, b.x, b.m)
}

// tags is a list of labels: a key and a value by turns.
func tags(pieces ...string) []api.Label {
	var list []api.Label
	for i := 0; i < len(pieces); i += 2 {
		list = append(list, api.Label{Key: pieces[i], Value: pieces[i+1]})
	}
	return list
}

// many is so many labels with keys that rise, all with the same value.
func many(n int, value string) []api.Label {
	var list []api.Label
	for i := range n {
		list = append(list, api.Label{Key: "k" + strconv.Itoa(100+i), Value: value})
	}
	return list
}

// answers holds a call's answer to the error that the chapter names.
func answers(t *testing.T, what string, got, want api.Errno) {
	t.Helper()
	if got != want {
		t.Errorf("%s: %d, want %d", what, got, want)
	}
}
