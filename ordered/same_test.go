package ordered_test

import (
	"testing"

	"berth/api"
	"berth/ordered"
)

// same holds Same of two indexes, in both orders, to what it must be.
func same(t *testing.T, what string, a, b *ordered.Index, want bool) {
	t.Helper()
	if ordered.Same(a, b) != want || ordered.Same(b, a) != want {
		t.Errorf("%s: Same is %v and %v, want %v", what, ordered.Same(a, b), ordered.Same(b, a), want)
	}
	if !ordered.Same(a, a) || !ordered.Same(b, b) {
		t.Errorf("%s: an index isn't the same as itself", what)
	}
}

// P8.4: indexes without entries, nil ones too, whatever their sizes.
func TestSameEmpty(t *testing.T) {
	same(t, "nil", nil, nil, true)
	for _, size := range []int{0, 1, 64, api.MaxUniverse} {
		a := made(t, size)
		same(t, "new and nil", a.x, nil, true)
		for _, other := range []int{0, 1, 65, api.MaxUniverse} {
			same(t, "new ones", a.x, made(t, other).x, true)
		}
		if a.put("cores", 0, 0) == api.OK {
			same(t, "one entry and nil", a.x, nil, false)
			same(t, "one entry and none", a.x, made(t, size).x, false)
			a.del("cores", 0)
			same(t, "deleted and nil", a.x, nil, true)
			same(t, "deleted and new", a.x, made(t, size).x, true)
		}
	}
}

// P8.4: the same entries by other calls, and in indexes of other sizes.
func TestSameByAnotherRoad(t *testing.T) {
	for _, size := range []int{6, 8, 64, 300, api.MaxUniverse} {
		a, b := example(t), made(t, size)
		b.put("rank", 3, -1)
		b.put("cores", 0, 16)
		same(t, "begun", a.x, b.x, false)
		b.put("disk", 4, 0)
		b.put("cores", 5, 16)
		b.put("cores", 3, 16)
		b.del("cores", 5)
		b.put("cores", 5, 4)
		b.del("rank", 3)
		b.put("rank", 3, -2)
		same(t, "one key too many", a.x, b.x, false)
		b.del("disk", 4)
		same(t, "by another road", a.x, b.x, true)
		for _, key := range b.x.Keys() {
			if got, want := walked(t, b.x.Rows(key), size), walked(t, a.x.Rows(key), 8); !sameRows(got, want) {
				t.Errorf("Rows(%q): %v, want %v", key, got, want)
			}
		}
		b.put("cores", 3, 8)
		b.del("disk", 4)
		b.put("", 1, 1)
		b.put("cores", -1, 1)
		same(t, "behind refused calls", a.x, b.x, true)
		b.del("cores", 0)
		same(t, "one entry too few", a.x, b.x, false)
	}
}

// P8.4: an entry more or less, another key, slot or number, a slot above the other's size: all of these are unlike.
func TestUnlike(t *testing.T) {
	base := func(size int) both {
		b := made(t, size)
		b.put("cores", 1, 16)
		b.put("cores", 3, 4)
		b.put("rank", 1, 0)
		return b
	}
	moved := func(b both, from entry, to entry, n int) api.Errno {
		b.del(from.key, from.slot)
		return b.put(to.key, to.slot, n)
	}
	for what, change := range map[string]func(b both) api.Errno{
		"an entry more":           func(b both) api.Errno { return b.put("cores", 0, 16) },
		"an entry of 0 more":      func(b both) api.Errno { return b.put("cores", 0, 0) },
		"a slot above the size":   func(b both) api.Errno { return b.put("cores", 6, 4) },
		"a slot far above":        func(b both) api.Errno { return b.put("rank", 69, 0) },
		"a key more":              func(b both) api.Errno { return b.put("disk", 1, 16) },
		"an entry less":           func(b both) api.Errno { return b.del("cores", 3) },
		"the first entry less":    func(b both) api.Errno { return b.del("cores", 1) },
		"a key less":              func(b both) api.Errno { return b.del("rank", 1) },
		"another number":          func(b both) api.Errno { return moved(b, entry{"cores", 1}, entry{"cores", 1}, 17) },
		"the other's number":      func(b both) api.Errno { return moved(b, entry{"cores", 1}, entry{"cores", 1}, 4) },
		"another slot":            func(b both) api.Errno { return moved(b, entry{"cores", 1}, entry{"cores", 0}, 16) },
		"another key":             func(b both) api.Errno { return moved(b, entry{"rank", 1}, entry{"ranks", 1}, 0) },
		"an entry of another key": func(b both) api.Errno { return moved(b, entry{"cores", 3}, entry{"rank", 3}, 4) },
		"another number than 0":   func(b both) api.Errno { return moved(b, entry{"rank", 1}, entry{"rank", 1}, 1) },
	} {
		a, b := base(6), base(70)
		same(t, "ahead of "+what, a.x, b.x, true)
		answers(t, what, change(b), api.OK)
		same(t, what, a.x, b.x, false)
		a.check(what)
		b.check(what)
	}
	a, b := base(6), base(6)
	a.del("cores", 1)
	a.del("cores", 3)
	a.put("cores", 1, 4)
	a.put("cores", 3, 16)
	same(t, "the numbers of two slots changed about", a.x, b.x, false)
	a, b = made(t, 6), made(t, 6)
	a.put("cores", 1, 2)
	b.put("cores", 2, 1)
	same(t, "slot and number changed about", a.x, b.x, false)
	a, b = made(t, 6), made(t, 6)
	a.put("a", 1, 1)
	b.put("b", 1, 1)
	same(t, "as many keys, but others", a.x, b.x, false)
}
