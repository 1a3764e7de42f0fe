package posting_test

import (
	"testing"

	"berth/api"
	"berth/posting"
)

// same holds Same of two indexes, in both orders, to what it must be.
func same(t *testing.T, what string, a, b *posting.Index, want bool) {
	t.Helper()
	if posting.Same(a, b) != want || posting.Same(b, a) != want {
		t.Errorf("%s: Same is %v and %v, want %v", what, posting.Same(a, b), posting.Same(b, a), want)
	}
	if !posting.Same(a, a) || !posting.Same(b, b) {
		t.Errorf("%s: an index isn't the same as itself", what)
	}
}

// P7.5: indexes in which nothing is live, nil ones too, whatever their sizes.
func TestSameEmpty(t *testing.T) {
	same(t, "nil", nil, nil, true)
	for _, size := range []int{0, 1, 64, api.MaxUniverse} {
		a := made(t, size)
		same(t, "new and nil", a.x, nil, true)
		for _, other := range []int{0, 1, 65, api.MaxUniverse} {
			same(t, "new ones", a.x, made(t, other).x, true)
		}
		if a.put(0, tags("a", "b")...) == api.OK {
			same(t, "one live and nil", a.x, nil, false)
			a.drop(0)
			same(t, "dropped and nil", a.x, nil, true)
			a.put(0)
			same(t, "one live without labels and nil", a.x, nil, false)
		}
	}
}

// P7.5: the same slots with the same labels by other calls, and in indexes of other sizes.
func TestSameByAnotherRoad(t *testing.T) {
	for _, size := range []int{6, 7, 64, 300, api.MaxUniverse} {
		a := example(t)
		b := made(t, size)
		b.put(2, tags("disk", "x", "zone", "c")...)
		same(t, "begun", a.x, b.x, false)
		b.put(4, many(32, "x")...)
		b.put(5)
		b.put(0, tags("zone", "a")...)
		b.set(5, tags("zone", "a")...)
		b.set(5, tags("disk", "ssd", "zone", "a")...)
		b.drop(2)
		b.put(2, tags("zone", "b")...)
		same(t, "one slot too many", a.x, b.x, false)
		b.drop(4)
		same(t, "by another road", a.x, b.x, true)
		b.put(2)
		b.set(3)
		b.set(2, tags("zone", "_")...)
		b.drop(-1)
		same(t, "behind refused calls", a.x, b.x, true)
		b.drop(0)
		same(t, "one slot too few", a.x, b.x, false)
	}
}

// P7.5: a slot more, another slot, a label more, another key, another value, a slot above the other's size: all of these are unlike.
func TestUnlike(t *testing.T) {
	base := func(size int) both {
		b := made(t, size)
		b.put(1, tags("app", "web", "zone", "a")...)
		b.put(3, tags("zone", "b")...)
		b.put(5)
		return b
	}
	for what, change := range map[string]func(b both) api.Errno{
		"a slot more":              func(b both) api.Errno { return b.put(0) },
		"a slot above the size":    func(b both) api.Errno { return b.put(6) },
		"a slot far above":         func(b both) api.Errno { return b.put(69, tags("zone", "a")...) },
		"a slot less":              func(b both) api.Errno { return b.drop(5) },
		"the first slot less":      func(b both) api.Errno { return b.drop(1) },
		"a first label":            func(b both) api.Errno { return b.set(5, tags("zone", "a")...) },
		"a label more":             func(b both) api.Errno { return b.set(3, tags("app", "web", "zone", "b")...) },
		"a label less":             func(b both) api.Errno { return b.set(3) },
		"the last label less":      func(b both) api.Errno { return b.set(1, tags("app", "web")...) },
		"the first label less":     func(b both) api.Errno { return b.set(1, tags("zone", "a")...) },
		"another value":            func(b both) api.Errno { return b.set(3, tags("zone", "a")...) },
		"an empty value":           func(b both) api.Errno { return b.set(3, tags("zone", "")...) },
		"another key":              func(b both) api.Errno { return b.set(3, tags("rack", "b")...) },
		"key and value in a place": func(b both) api.Errno { return b.set(3, tags("b", "zone")...) },
		"values changed about":     func(b both) api.Errno { return b.set(1, tags("app", "a", "zone", "web")...) },
	} {
		a, b := base(6), base(70)
		same(t, "ahead of "+what, a.x, b.x, true)
		answers(t, what, change(b), api.OK)
		same(t, what, a.x, b.x, false)
		a.check(what)
		b.check(what)
	}
	a, b := base(6), base(6)
	a.set(1, tags("zone", "b")...)
	a.set(3, tags("app", "web", "zone", "a")...)
	same(t, "the labels of two slots changed about", a.x, b.x, false)
	a, b = base(6), base(6)
	a.put(0)
	b.put(2)
	same(t, "as many slots, but others", a.x, b.x, false)
}
