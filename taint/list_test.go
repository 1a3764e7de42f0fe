package taint_test

import (
	"math/rand/v2"
	"slices"
	"testing"

	"berth/api"
	"berth/taint"
)

// stands is the list of the chapter's examples 3 and 4.
func stands() []api.Taint {
	return marks("gpu", "", "NoExecute", "gpu", "", "NoSchedule", "zone", "a", "NoSchedule")
}

// P4.6: Make: the order, each error with its place, which one comes first; example 4.
func TestMake(t *testing.T) {
	for _, c := range []struct {
		list, want []api.Taint
		at         int
		err        api.Errno
	}{
		{nil, nil, 0, api.OK},
		{stands(), stands(), 0, api.OK},
		{reversed(stands()), stands(), 0, api.OK},
		{marks("b", "", "NoExecute", "B", "", "NoSchedule"), marks("B", "", "NoSchedule", "b", "", "NoExecute"), 0, api.OK},
		{marks("a", "1", "PreferNoSchedule", "a", "2", "NoSchedule", "a", "3", "NoExecute"), marks("a", "3", "NoExecute", "a", "2", "NoSchedule", "a", "1", "PreferNoSchedule"), 0, api.OK},
		{marks("a-b", "", "NoExecute", "a", "", "NoSchedule"), marks("a", "", "NoSchedule", "a-b", "", "NoExecute"), 0, api.OK},
		{reversed(many(16)), many(16), 0, api.OK},
		{many(17), nil, 0, api.ErrTaints},
		{append(many(16), mark("-", "", "")), nil, 0, api.ErrTaints},
		{append(many(16), many(1)...), nil, 0, api.ErrTaints},
		{many(1000), nil, 0, api.ErrTaints},
		{marks("b", "", "NoExecute", "a", "", "NoExecute", "b", "x", "NoExecute"), nil, 2, api.ErrTaintDup},
		{marks("a", "", "NoExecute", "a", "", "NoExecute"), nil, 1, api.ErrTaintDup},
		{marks("a", "", "NoExecute", "b", "", "NoExecute", "c", "", "NoExecute", "c", "", "NoExecute", "a", "", "NoExecute"), nil, 3, api.ErrTaintDup},
		{marks("a", "", "NoExecute", "b", "", "NoExecute", "c", "", "NoExecute", "a", "1", "NoExecute", "b", "", "NoExecute"), nil, 3, api.ErrTaintDup},
		{append(many(15), many(1)...), nil, 15, api.ErrTaintDup},
		{marks("a", "", "NoExecute", "a", "", "NoExecute", "-", "", "x"), nil, 2, api.ErrTaintKey},
		{marks("a", "-", "x", "", "", ""), nil, 0, api.ErrTaintValue},
		{marks("a", "", "NoExecute", "a", "-", "x", "", "", ""), nil, 1, api.ErrTaintValue},
		{marks("b", "", "NoExecute", "a", "", "x"), nil, 1, api.ErrEffect},
		{append(many(15), mark("a", "", "")), nil, 15, api.ErrEffect},
	} {
		got, at, err := taint.Make(c.list)
		if !slices.Equal(got, c.want) || at != c.at || err != c.err {
			t.Errorf("Make(%q) = %q, %d, %d, want %q, %d, %d", c.list, got, at, err, c.want, c.at, c.err)
		}
	}
	r := rand.New(rand.NewPCG(4, 6))
	for range 30000 {
		l := anyRaw(r)
		got, at, err := taint.Make(l)
		want, wantAt, wantErr := plainMake(l)
		if !slices.Equal(got, want) || at != wantAt || err != wantErr {
			t.Errorf("Make(%q) = %q, %d, %d, want %q, %d, %d", l, got, at, err, want, wantAt, wantErr)
		}
		if err := taint.Check(got); err != api.OK {
			t.Errorf("Make(%q) = %q, which Check refuses: %d", l, got, err)
		}
	}
}

// P4.6: Check: the order, each error, which one comes first.
func TestCheck(t *testing.T) {
	for _, c := range []struct {
		list []api.Taint
		err  api.Errno
	}{
		{nil, api.OK},
		{stands(), api.OK},
		{stands()[:1], api.OK},
		{many(16), api.OK},
		{marks("B", "", "NoSchedule", "b", "", "NoExecute"), api.OK},
		{marks("a", "3", "NoExecute", "a", "2", "NoSchedule", "a", "1", "PreferNoSchedule"), api.OK},
		{marks("a", "", "PreferNoSchedule", "a-b", "", "NoExecute"), api.OK},
		{many(17), api.ErrTaints},
		{append(many(16), api.Taint{}), api.ErrTaints},
		{make([]api.Taint, 17), api.ErrTaints},
		{make([]api.Taint, 16), api.ErrTaintKey},
		{reversed(stands()), api.ErrTaintDup},
		{marks("a", "", "NoSchedule", "a", "", "NoSchedule"), api.ErrTaintDup},
		{marks("a", "1", "NoSchedule", "a", "2", "NoSchedule"), api.ErrTaintDup},
		{marks("a", "", "NoSchedule", "a", "", "NoExecute"), api.ErrTaintDup},
		{marks("b", "", "NoExecute", "B", "", "NoSchedule"), api.ErrTaintDup},
		{marks("a", "", "NoExecute", "c", "", "NoExecute", "b", "", "NoSchedule"), api.ErrTaintDup},
		{append(many(15), many(15)[14]), api.ErrTaintDup},
		{marks("b", "", "NoExecute", "a", "", "NoExecute", "-", "", "x"), api.ErrTaintKey},
		{marks("b", "", "NoExecute", "a", "-", "NoExecute", "-", "", "x"), api.ErrTaintValue},
		{marks("b", "", "NoExecute", "b", "", "x", "-", "", "x"), api.ErrEffect},
	} {
		if err := taint.Check(c.list); err != c.err {
			t.Errorf("Check(%q) = %d, want %d", c.list, err, c.err)
		}
	}
	r := rand.New(rand.NewPCG(4, 7))
	for range 30000 {
		l := anyMade(r, 16)
		if r.IntN(2) == 0 {
			l = anyRaw(r)
		}
		if err := taint.Check(l); err != plainCheck(l) {
			t.Errorf("Check(%q) = %d, want %d", l, err, plainCheck(l))
		}
	}
}

// P4.6: CheckTolerations: any order, doubles too; each error with its place, which one comes first.
func TestCheckTolerations(t *testing.T) {
	every := may("", "Exists", "", "")
	for _, c := range []struct {
		list []api.Toleration
		at   int
		err  api.Errno
	}{
		{nil, 0, api.OK},
		{[]api.Toleration{every}, 0, api.OK},
		{[]api.Toleration{may("b", "Equal", "", ""), may("a", "Exists", "", "NoSchedule"), may("b", "Equal", "", "")}, 0, api.OK},
		{slices.Repeat([]api.Toleration{every}, 16), 0, api.OK},
		{slices.Repeat([]api.Toleration{every}, 17), 0, api.ErrTolerations},
		{make([]api.Toleration, 17), 0, api.ErrTolerations},
		{make([]api.Toleration, 16), 0, api.ErrOperator},
		{[]api.Toleration{every, every, may("", "x", "", "")}, 2, api.ErrOperator},
		{[]api.Toleration{every, may("", "Equal", "", ""), may("", "x", "", "")}, 1, api.ErrTaintKey},
		{[]api.Toleration{every, may("", "Exists", "a", ""), may("", "Equal", "", "")}, 1, api.ErrTaintValue},
		{[]api.Toleration{may("a", "Equal", "b", "x"), {}}, 0, api.ErrEffect},
		{append(slices.Repeat([]api.Toleration{every}, 15), may("", "Exists", "", "x")), 15, api.ErrEffect},
	} {
		if at, err := taint.CheckTolerations(c.list); at != c.at || err != c.err {
			t.Errorf("CheckTolerations(%q) = %d, %d, want %d, %d", c.list, at, err, c.at, c.err)
		}
	}
}

// P4.7: Put: over one that stands there, at its place, into a full list; each error, which one comes first; example 4.
func TestPut(t *testing.T) {
	full := many(16)
	for _, c := range []struct {
		list []api.Taint
		t    api.Taint
		want []api.Taint
		err  api.Errno
	}{
		{stands(), mark("gpu", "b", "NoSchedule"), marks("gpu", "", "NoExecute", "gpu", "b", "NoSchedule", "zone", "a", "NoSchedule"), api.OK},
		{stands(), mark("zone", "", "NoSchedule"), marks("gpu", "", "NoExecute", "gpu", "", "NoSchedule", "zone", "", "NoSchedule"), api.OK},
		{stands(), mark("zone", "a", "NoSchedule"), stands(), api.OK},
		{stands()[1:], mark("gpu", "", "NoExecute"), stands(), api.OK},
		{append(stands()[:1], stands()[2]), mark("gpu", "", "NoSchedule"), stands(), api.OK},
		{stands()[:2], mark("zone", "a", "NoSchedule"), stands(), api.OK},
		{stands(), mark("zone", "a", "PreferNoSchedule"), append(stands(), mark("zone", "a", "PreferNoSchedule")), api.OK},
		{nil, mark("a", "", "NoExecute"), marks("a", "", "NoExecute"), api.OK},
		{full[:15], full[15], full, api.OK},
		{full[1:], full[0], full, api.OK},
		{full, mark("k100", "x", full[0].Effect), append(marks("k100", "x", full[0].Effect), full[1:]...), api.OK},
		{full, mark("k115", "x", full[15].Effect), append(slices.Clone(full[:15]), mark("k115", "x", full[15].Effect)), api.OK},
		{full, mark("k115", "15", full[14].Effect), nil, api.ErrTaints},
		{full, mark("z", "", full[0].Effect), nil, api.ErrTaints},
		{full, mark("z", "", "x"), nil, api.ErrEffect},
		{full, mark("z", "-", "x"), nil, api.ErrTaintValue},
		{full, mark("", "", "NoExecute"), nil, api.ErrTaintKey},
		{many(17), mark("k100", "-", "x"), nil, api.ErrTaints},
		{reversed(stands()), mark("-", "", "x"), nil, api.ErrTaintDup},
		{reversed(stands()), mark("a", "", "NoExecute"), nil, api.ErrTaintDup},
		{marks("a", "-", "NoExecute"), mark("-", "", "x"), nil, api.ErrTaintValue},
		{marks("a", "", "x"), mark("a", "", "NoExecute"), nil, api.ErrEffect},
	} {
		got, err := taint.Put(c.list, c.t)
		if !slices.Equal(got, c.want) || err != c.err {
			t.Errorf("Put(%q, %q) = %q, %d, want %q, %d", c.list, c.t, got, err, c.want, c.err)
		}
	}
	r := rand.New(rand.NewPCG(4, 8))
	for range 30000 {
		l, x := anyMade(r, 18), anyTaint(r, 12)
		if r.IntN(4) == 0 {
			l = anyRaw(r)
		}
		got, err := taint.Put(l, x)
		want, wantErr := plainPut(l, x)
		if !slices.Equal(got, want) || err != wantErr {
			t.Errorf("Put(%q, %q) = %q, %d, want %q, %d", l, x, got, err, want, wantErr)
		}
	}
}

// P4.7: Del, of raw lists and of any texts; of what isn't there; example 4.
func TestDel(t *testing.T) {
	raw := marks("z", "1", "NoSchedule", "a", "", "x y", "z", "-", "NoSchedule", "", "", "", "z", "2", "NoExecute", "a", "1", "x y", "", "7", "")
	for _, c := range []struct {
		list        []api.Taint
		key, effect string
		want        []api.Taint
		had         bool
	}{
		{stands(), "zone", "NoExecute", stands(), false},
		{stands(), "zone", "NoSchedule", stands()[:2], true},
		{stands(), "gpu", "NoSchedule", append(stands()[:1], stands()[2]), true},
		{stands(), "NoSchedule", "zone", stands(), false},
		{stands(), "", "", stands(), false},
		{stands(), "zone", "", stands(), false},
		{stands(), "", "NoSchedule", stands(), false},
		{stands()[:1], "gpu", "NoExecute", nil, true},
		{nil, "a", "NoExecute", nil, false},
		{nil, "", "", nil, false},
		{raw, "z", "NoSchedule", marks("a", "", "x y", "", "", "", "z", "2", "NoExecute", "a", "1", "x y", "", "7", ""), true},
		{raw, "a", "x y", marks("z", "1", "NoSchedule", "z", "-", "NoSchedule", "", "", "", "z", "2", "NoExecute", "", "7", ""), true},
		{raw, "", "", marks("z", "1", "NoSchedule", "a", "", "x y", "z", "-", "NoSchedule", "z", "2", "NoExecute", "a", "1", "x y"), true},
		{raw, "a", "NoSchedule", raw, false},
		{marks("a", "1", "b", "a", "2", "b"), "a", "b", nil, true},
		{marks("ab", "", "c"), "a", "bc", marks("ab", "", "c"), false},
		{many(100), "k199", effects[0], many(99), true},
		{many(100), "k199", effects[1], many(100), false},
	} {
		got, had := taint.Del(c.list, c.key, c.effect)
		if !slices.Equal(got, c.want) || had != c.had {
			t.Errorf("Del(%q, %q, %q) = %q, %v, want %q, %v", c.list, c.key, c.effect, got, had, c.want, c.had)
		}
	}
	r := rand.New(rand.NewPCG(4, 9))
	for range 30000 {
		l, x := anyRaw(r), anyTaint(r, 6)
		if len(l) > 0 && r.IntN(2) == 0 {
			x = oneOf(r, l)
		}
		got, had := taint.Del(l, x.Key, x.Effect)
		want, wantHad := plainDel(l, x.Key, x.Effect)
		if !slices.Equal(got, want) || had != wantHad {
			t.Errorf("Del(%q, %q, %q) = %q, %v, want %q, %v", l, x.Key, x.Effect, got, had, want, wantHad)
		}
	}
}
