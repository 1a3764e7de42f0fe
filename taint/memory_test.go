package taint_test

import (
	"math/rand/v2"
	"slices"
	"testing"

	"berth/api"
	"berth/taint"
)

var (
	spare    = mark("spare", "room", "NoSchedule")
	spareMay = may("spare", "Equal", "room", "NoSchedule")
)

// roomy is the list with spare room behind it that is filled.
func roomy[T any](l []T, by T) []T {
	whole := append(slices.Clone(l), by, by, by)
	return whole[:len(l):len(whole)]
}

func filled[T any](l []T, by T) {
	l = l[:cap(l)]
	for i := range l {
		l[i] = by
	}
}

// untouched: is it still the list that roomy made of the one wanted?
func untouched[T comparable](got, want []T, by T) bool {
	made := roomy(want, by)
	return slices.Equal(got[:len(want)+3], made[:len(want)+3])
}

// handed is what the calls are given.
type handed struct {
	list   []api.Taint
	os     []api.Toleration
	t      api.Taint
	effect string
}

func (h handed) copied() handed {
	return handed{roomy(h.list, spare), roomy(h.os, spareMay), h.t, h.effect}
}

func (h handed) overwrite() {
	filled(h.list, mark("under", "2", "NoExecute"))
	filled(h.os, may("under", "Exists", "", ""))
}

func (h handed) is(o handed) bool {
	return untouched(h.list, o.list, spare) && untouched(h.os, o.os, spareMay)
}

// listCalls are all calls that are handed lists, with the list that each answers.
func listCalls() map[string]func(h handed) []api.Taint {
	return map[string]func(h handed) []api.Taint{
		"Make":             func(h handed) []api.Taint { l, _, _ := taint.Make(h.list); return l },
		"Check":            func(h handed) []api.Taint { taint.Check(h.list); return nil },
		"CheckTolerations": func(h handed) []api.Taint { taint.CheckTolerations(h.os); return nil },
		"Put":              func(h handed) []api.Taint { l, _ := taint.Put(h.list, h.t); return l },
		"Del":              func(h handed) []api.Taint { l, _ := taint.Del(h.list, h.t.Key, h.t.Effect); return l },
		"Left":             func(h handed) []api.Taint { return taint.Left(h.list, h.os, h.effect) },
		"Tolerated":        func(h handed) []api.Taint { taint.Tolerated(h.list, h.os, h.effect); return nil },
	}
}

func cases() []handed {
	r := rand.New(rand.NewPCG(4, 12))
	all := []handed{
		{t: spare},
		{list: many(16), t: many(16)[3]},
		{list: many(16), t: spare},
		{list: many(15), t: spare},
		{list: many(17), t: spare},
		{list: reversed(many(16)), t: many(16)[15]},
		{list: stands(), t: mark("gpu", "b", "NoSchedule"), effect: "NoSchedule"},
		{list: stands()[2:], t: spare, effect: "NoSchedule"},
		{list: many(5), os: make([]api.Toleration, 17), effect: "NoSchedule"},
	}
	for range 500 {
		all = append(all, handed{anyMade(r, 8), anyTolerations(r), anyTaint(r, 9), oneOf(r, effects)}, handed{anyRaw(r), anyTolerations(r), anyTaint(r, 9), oneOf(r, effects)})
	}
	return all
}

// R6: no call changes what it is handed, spare room included, and what it answers is new memory, spare room too: whoever writes over the answer changes no argument, and whoever writes over an argument changes no answer. R9: asked again, it answers the same.
func TestListsAreNeitherChangedNorKept(t *testing.T) {
	for name, call := range listCalls() {
		for _, h := range cases() {
			c := h.copied()
			out := call(c)
			if !c.is(h) {
				t.Fatalf("%s changed what it was handed: %q", name, h)
			}
			want := slices.Clone(out)
			filled(out, mark("over", "1", "NoExecute"))
			if !c.is(h) {
				t.Fatalf("%s of %q answers memory of an argument", name, h)
			}
			copy(out, want)
			c.overwrite()
			if !slices.Equal(out, want) {
				t.Fatalf("%s of %q answers memory of an argument", name, h)
			}
			if again := call(h.copied()); !slices.Equal(again, want) {
				t.Fatalf("%s of %q answers %q, then %q", name, h, want, again)
			}
		}
	}
}

// R5, P4.6: an empty list that is nil and one that isn't mean the same, and are fine everywhere.
func TestNilAndEmpty(t *testing.T) {
	x := mark("a", "", "NoExecute")
	for _, l := range [][]api.Taint{nil, {}, make([]api.Taint, 0, 4)} {
		if got, at, err := taint.Make(l); len(got) != 0 || at != 0 || err != api.OK {
			t.Errorf("Make of the empty list: %q, %d, %d", got, at, err)
		}
		if err := taint.Check(l); err != api.OK {
			t.Errorf("Check of the empty list: %d", err)
		}
		if got, err := taint.Put(l, x); !slices.Equal(got, []api.Taint{x}) || err != api.OK {
			t.Errorf("Put into the empty list: %q, %d", got, err)
		}
		if got, had := taint.Del(l, "a", "NoExecute"); len(got) != 0 || had {
			t.Errorf("Del of the empty list: %q, %v", got, had)
		}
		for _, os := range [][]api.Toleration{nil, {}} {
			if at, err := taint.CheckTolerations(os); at != 0 || err != api.OK {
				t.Errorf("CheckTolerations of the empty list: %d, %d", at, err)
			}
			if got := taint.Left(l, os, "NoExecute"); len(got) != 0 || !taint.Tolerated(l, os, "NoExecute") {
				t.Errorf("Left of the empty list: %q", got)
			}
			if got := taint.Left([]api.Taint{x}, os, "NoExecute"); !slices.Equal(got, []api.Taint{x}) || taint.Tolerated([]api.Taint{x}, os, "NoExecute") {
				t.Errorf("Left without tolerations: %q", got)
			}
		}
	}
}
