package taint_test

import (
	"slices"
	"testing"

	"berth/api"
	"berth/taint"
)

// P4.1: IsEffect: the three, letter by letter.
func TestIsEffect(t *testing.T) {
	for s, want := range map[string]bool{
		"NoSchedule": true, "PreferNoSchedule": true, "NoExecute": true,
		"": false, "noSchedule": false, "Noschedule": false, "noexecute": false, "NOEXECUTE": false, "PreferNoExecute": false, "preferNoSchedule": false,
		"NoSchedule ": false, " NoExecute": false, "NoExecut": false, "NoExecutee": false, "NoSchedule\x00": false, "Exists": false, "Equal": false, "*": false, "\xff": false,
	} {
		if got := taint.IsEffect(s); got != want {
			t.Errorf("IsEffect(%q) = %v", s, got)
		}
	}
}

// P4.1: CheckTaint: each error, and which one comes first.
func TestCheckTaint(t *testing.T) {
	for _, c := range []struct {
		t   api.Taint
		err api.Errno
	}{
		{mark("zone", "a", "NoSchedule"), api.OK},
		{mark("gpu", "", "NoExecute"), api.OK},
		{mark("x.io/Disk_1", "-5", "PreferNoSchedule"), api.OK},
		{mark(long, long, "NoSchedule"), api.OK},
		{mark(goodKeys[len(goodKeys)-1], long, "PreferNoSchedule"), api.OK},
		{mark("", "", ""), api.ErrTaintKey},
		{mark("", "", "NoSchedule"), api.ErrTaintKey},
		{mark("*", "", "NoSchedule"), api.ErrTaintKey},
		{mark("-", "-", "x"), api.ErrTaintKey},
		{mark("-", "a", "NoSchedule"), api.ErrTaintKey},
		{mark("-", "-", "NoSchedule"), api.ErrTaintKey},
		{mark("-", "a", "x"), api.ErrTaintKey},
		{mark(long+"k", "", "NoSchedule"), api.ErrTaintKey},
		{mark("A/a", "", "NoSchedule"), api.ErrTaintKey},
		{mark("a", "-", "x"), api.ErrTaintValue},
		{mark("a", "-", "NoSchedule"), api.ErrTaintValue},
		{mark("a", long+"v", "NoSchedule"), api.ErrTaintValue},
		{mark("a", "b/c", "NoSchedule"), api.ErrTaintValue},
		{mark("a", "", ""), api.ErrEffect},
		{mark("a", "b", "noschedule"), api.ErrEffect},
		{mark("a", "b", "Exists"), api.ErrEffect},
	} {
		if err := taint.CheckTaint(c.t); err != c.err {
			t.Errorf("CheckTaint(%q) = %d, want %d", c.t, err, c.err)
		}
	}
	for _, x := range everyTaint() {
		if err := taint.CheckTaint(x); err != plainTaint(x) {
			t.Errorf("CheckTaint(%q) = %d, want %d", x, err, plainTaint(x))
		}
	}
}

// P4.1: CheckToleration: each error, and which one comes first; an empty key beside Equal and beside Exists, a value beside Exists, an empty effect.
func TestCheckToleration(t *testing.T) {
	for _, c := range []struct {
		o   api.Toleration
		err api.Errno
	}{
		{may("a", "Equal", "b", "NoSchedule"), api.OK},
		{may("a", "Equal", "", "NoExecute"), api.OK},
		{may("a", "Equal", "b", ""), api.OK},
		{may("a", "Exists", "", "PreferNoSchedule"), api.OK},
		{may("a", "Exists", "", ""), api.OK},
		{may("", "Exists", "", "NoSchedule"), api.OK},
		{may("", "Exists", "", ""), api.OK},
		{may("", "", "", ""), api.ErrOperator},
		{may("a", "", "b", "NoSchedule"), api.ErrOperator},
		{may("a", "exists", "", ""), api.ErrOperator},
		{may("a", "EQUAL", "", ""), api.ErrOperator},
		{may("-", "In", "-", "x"), api.ErrOperator},
		{may("", "Equal", "", ""), api.ErrTaintKey},
		{may("", "Equal", "b", "NoSchedule"), api.ErrTaintKey},
		{may("", "Equal", "-", "x"), api.ErrTaintKey},
		{may("*", "Exists", "", ""), api.ErrTaintKey},
		{may("*", "Equal", "a", ""), api.ErrTaintKey},
		{may("-", "Exists", "a", "x"), api.ErrTaintKey},
		{may("-", "Equal", "-", "x"), api.ErrTaintKey},
		{may("a", "Exists", "b", ""), api.ErrTaintValue},
		{may("a", "Exists", "-", "x"), api.ErrTaintValue},
		{may("", "Exists", "b", "NoSchedule"), api.ErrTaintValue},
		{may("", "Exists", "b", "x"), api.ErrTaintValue},
		{may("a", "Equal", "-", "NoSchedule"), api.ErrTaintValue},
		{may("a", "Equal", "-", "x"), api.ErrTaintValue},
		{may("a", "Equal", long+"v", ""), api.ErrTaintValue},
		{may("a", "Equal", "b", "x"), api.ErrEffect},
		{may("a", "Exists", "", "noschedule"), api.ErrEffect},
		{may("", "Exists", "", "*"), api.ErrEffect},
	} {
		if err := taint.CheckToleration(c.o); err != c.err {
			t.Errorf("CheckToleration(%q) = %d, want %d", c.o, err, c.err)
		}
	}
	for _, o := range everyToleration() {
		if err := taint.CheckToleration(o); err != plainToleration(o) {
			t.Errorf("CheckToleration(%q) = %d, want %d", o, err, plainToleration(o))
		}
	}
}

// everyTaint is every taint of the chosen keys, values and effects, right and wrong ones.
func everyTaint() []api.Taint {
	var out []api.Taint
	for _, key := range slices.Concat(goodKeys, badKeys) {
		for _, value := range slices.Concat(goodValues, badValues) {
			for _, effect := range slices.Concat(effects, badEffects) {
				out = append(out, mark(key, value, effect))
			}
		}
	}
	return out
}

// everyToleration is every toleration of the chosen keys, operators, values and effects, right and wrong ones.
func everyToleration() []api.Toleration {
	var out []api.Toleration
	for _, t := range everyTaint() {
		for _, op := range slices.Concat(operators, badOps) {
			out = append(out, may(t.Key, op, t.Value, t.Effect))
		}
	}
	return out
}
