package ordered_test

import (
	"iter"
	"slices"
	"testing"

	"berth/api"
	"berth/bitset"
	"berth/ordered"
)

// both is an index and its model: each call goes to both, and what they answer is held against each other.
type both struct {
	t *testing.T
	x *ordered.Index
	m *model
}

func made(t *testing.T, size int) both {
	t.Helper()
	x, err := ordered.New(size)
	if x == nil || err != api.OK {
		t.Fatalf("New(%d): %v, %d", size, x, err)
	}
	return both{t, x, newModel(size)}
}

func (b both) put(key string, slot, n int) api.Errno {
	b.t.Helper()
	got, want := b.x.Put(key, slot, n), b.m.put(key, slot, n)
	if got != want {
		b.t.Fatalf("Put(%q, %d, %d) = %d, want %d", key, slot, n, got, want)
	}
	return got
}

func (b both) del(key string, slot int) api.Errno {
	b.t.Helper()
	got, want := b.x.Del(key, slot), b.m.del(key, slot)
	if got != want {
		b.t.Fatalf("Del(%q, %d) = %d, want %d", key, slot, got, want)
	}
	return got
}

func (b both) check(when string) {
	b.t.Helper()
	check(b.t, when, b.x, b.m)
}

// walked is what a walk gives; each set is held to its size.
func walked(t *testing.T, walk iter.Seq2[int, *bitset.Set], size int) []row {
	t.Helper()
	if walk == nil {
		t.Fatal("Rows is nil")
	}
	var all []row
	for n, set := range walk {
		if set == nil || set.Size() != size {
			t.Fatalf("a walk gives %d with a set of %d, want of %d", n, set.Size(), size)
		}
		all = append(all, row{n, set.Members()})
	}
	return all
}

// answers holds a call's answer to the error that the chapter names.
func answers(t *testing.T, what string, got, want api.Errno) {
	t.Helper()
	if got != want {
		t.Errorf("%s: %d, want %d", what, got, want)
	}
}

// texts holds a list of texts to what it must be.
func texts(t *testing.T, what string, got []string, want ...string) {
	t.Helper()
	if !slices.Equal(got, want) {
		t.Errorf("%s: %q, want %q", what, got, want)
	}
}
