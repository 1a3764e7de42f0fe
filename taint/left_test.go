package taint_test

import (
	"math/rand/v2"
	"slices"
	"testing"

	"berth/api"
	"berth/taint"
)

// P4.8: Match: the effect, the key and the value, each fitting or not, with each operator.
func TestMatch(t *testing.T) {
	x := mark("zone", "a", "NoSchedule")
	for _, c := range []struct {
		o    api.Toleration
		t    api.Taint
		want bool
	}{
		{may("", "Exists", "", ""), x, true},
		{may("", "Exists", "", "NoSchedule"), x, true},
		{may("", "Exists", "", "NoExecute"), x, false},
		{may("", "Exists", "", "noSchedule"), x, false},
		{may("zone", "Exists", "", ""), x, true},
		{may("zone", "Exists", "", "NoSchedule"), x, true},
		{may("zone", "Exists", "", "NoExecute"), x, false},
		{may("zone", "Exists", "q", ""), x, true},
		{may("", "Exists", "q", ""), x, true},
		{may("Zone", "Exists", "", ""), x, false},
		{may("*", "Exists", "", ""), x, false},
		{may("zone", "Equal", "a", ""), x, true},
		{may("zone", "Equal", "a", "NoSchedule"), x, true},
		{may("zone", "Equal", "a", "NoExecute"), x, false},
		{may("zone", "Equal", "b", ""), x, false},
		{may("zone", "Equal", "", ""), x, false},
		{may("rack", "Equal", "a", ""), x, false},
		{may("", "Equal", "a", ""), x, false},
		{may("", "Equal", "", ""), x, false},
		{may("zone", "", "a", "NoSchedule"), x, false},
		{may("", "", "", ""), x, false},
		{may("zone", "exists", "a", "NoSchedule"), x, false},
		{may("zone", "equal", "a", "NoSchedule"), x, false},
		{may("gpu", "Equal", "", ""), mark("gpu", "", "NoExecute"), true},
		{may("gpu", "Equal", "", "NoExecute"), mark("gpu", "", "NoExecute"), true},
		{may("", "Equal", "", ""), api.Taint{}, true},
		{may("", "Equal", "", ""), mark("", "", "x"), true},
		{may("", "Equal", "", "x"), api.Taint{}, false},
		{may("", "Exists", "", ""), api.Taint{}, true},
		{may("", "", "", ""), api.Taint{}, false},
		{may("-", "Equal", "x y", "z"), mark("-", "x y", "z"), true},
		{may("-", "Exists", "x y", "z"), mark("-", "", "z"), true},
		{may("-", "x", "x y", "z"), mark("-", "x y", "z"), false},
	} {
		if got := taint.Match(c.o, c.t); got != c.want {
			t.Errorf("Match(%q, %q) = %v", c.o, c.t, got)
		}
	}
}

// P4.8: every toleration and every taint of a few texts.
func TestMatchAll(t *testing.T) {
	some := []string{"", "a", "NoSchedule", "Exists"}
	var all []api.Taint
	for _, key := range some {
		for _, value := range some {
			for _, effect := range some {
				all = append(all, mark(key, value, effect))
			}
		}
	}
	for _, op := range []string{"", "Equal", "Exists", "exists", "NoSchedule"} {
		for _, u := range all {
			o := may(u.Key, op, u.Value, u.Effect)
			for _, x := range all {
				if got := taint.Match(o, x); got != plainMatch(o, x) {
					t.Errorf("Match(%q, %q) = %v", o, x, got)
				}
			}
		}
	}
}

// P4.8: the toleration * of example 2 matches every taint.
func TestStarMatchesAll(t *testing.T) {
	star, err := taint.ParseToleration("*")
	if err != api.OK {
		t.Fatalf("ParseToleration: %d", err)
	}
	for _, x := range everyTaint() {
		if !taint.Match(star, x) {
			t.Errorf("* doesn't match %q", x)
		}
	}
}

// P4.9: Left and Tolerated; example 3; raw lists and any text as the effect.
func TestLeft(t *testing.T) {
	ts := stands()
	raw := marks("z", "", "NoSchedule", "a", "", "x y", "z", "", "NoSchedule", "", "", "", "a", "-", "NoSchedule", "", "7", "")
	for _, c := range []struct {
		list   []api.Taint
		os     []api.Toleration
		effect string
		want   []api.Taint
	}{
		{ts, []api.Toleration{may("gpu", "Exists", "", "")}, "NoSchedule", ts[2:]},
		{ts, nil, "NoExecute", ts[:1]},
		{ts, []api.Toleration{may("", "Exists", "", "NoSchedule")}, "NoSchedule", nil},
		{ts, []api.Toleration{may("", "Exists", "", "NoSchedule")}, "NoExecute", ts[:1]},
		{ts, nil, "NoSchedule", ts[1:]},
		{ts, nil, "PreferNoSchedule", nil},
		{ts, nil, "", nil},
		{ts, nil, "noschedule", nil},
		{ts, []api.Toleration{may("zone", "Equal", "b", ""), may("gpu", "Equal", "", "")}, "NoSchedule", ts[2:]},
		{ts, []api.Toleration{may("zone", "Equal", "a", ""), may("gpu", "Equal", "", "")}, "NoSchedule", nil},
		{ts, []api.Toleration{may("zone", "", "a", ""), may("", "Equal", "a", "")}, "NoSchedule", ts[1:]},
		{ts, []api.Toleration{may("zone", "Exists", "q", "")}, "NoSchedule", ts[1:2]},
		{ts, make([]api.Toleration, 100), "NoSchedule", ts[1:]},
		{nil, nil, "NoSchedule", nil},
		{nil, []api.Toleration{may("", "Exists", "", "")}, "", nil},
		{raw, nil, "NoSchedule", marks("z", "", "NoSchedule", "z", "", "NoSchedule", "a", "-", "NoSchedule")},
		{raw, []api.Toleration{may("a", "Equal", "-", "NoSchedule")}, "NoSchedule", marks("z", "", "NoSchedule", "z", "", "NoSchedule")},
		{raw, nil, "x y", marks("a", "", "x y")},
		{raw, nil, "", marks("", "", "", "", "7", "")},
		{raw, []api.Toleration{may("", "Equal", "7", "")}, "", marks("", "", "")},
		{raw, []api.Toleration{may("", "Exists", "", "")}, "", nil},
		{many(100), nil, "NoExecute", slices.DeleteFunc(many(100), func(x api.Taint) bool { return x.Effect != "NoExecute" })},
	} {
		got := taint.Left(c.list, c.os, c.effect)
		if !slices.Equal(got, c.want) {
			t.Errorf("Left(%q, %q, %q) = %q, want %q", c.list, c.os, c.effect, got, c.want)
		}
		if tolerated := taint.Tolerated(c.list, c.os, c.effect); tolerated != (len(c.want) == 0) {
			t.Errorf("Tolerated(%q, %q, %q) = %v", c.list, c.os, c.effect, tolerated)
		}
	}
	r := rand.New(rand.NewPCG(4, 10))
	for range 30000 {
		l, os, effect := anyRaw(r), anyTolerations(r), pick(r, effects, badEffects, 6)
		got, want := taint.Left(l, os, effect), plainLeft(l, os, effect)
		if !slices.Equal(got, want) || taint.Tolerated(l, os, effect) != (len(want) == 0) {
			t.Errorf("Left(%q, %q, %q) = %q, want %q", l, os, effect, got, want)
		}
	}
}
