package labels_test

import (
	"math/rand/v2"
	"slices"
	"testing"

	"berth/api"
	"berth/labels"
)

func had(key, old string) api.LabelDiff { return api.LabelDiff{Key: key, Had: true, Old: old} }
func has(key, now string) api.LabelDiff { return api.LabelDiff{Key: key, Has: true, New: now} }

func both(key, old, now string) api.LabelDiff {
	return api.LabelDiff{Key: key, Had: true, Old: old, Has: true, New: now}
}

func diffs(all ...api.LabelDiff) []api.LabelDiff { return all }

// P3.10: what the walk gives; example 6.
func TestDiff(t *testing.T) {
	for _, c := range []struct {
		was, now []api.Label
		want     []api.LabelDiff
	}{
		{nil, nil, nil},
		{list("a", "1", "b", "2"), list("b", "3", "c", "4"), diffs(had("a", "1"), both("b", "2", "3"), has("c", "4"))},
		{list("b", "1", "a", "1"), nil, nil},
		{nil, list("b", "1", "a", "1"), nil},
		{list("a", "1"), nil, diffs(had("a", "1"))},
		{list("a", ""), nil, diffs(had("a", ""))},
		{nil, list("a", ""), diffs(has("a", ""))},
		{list("a", ""), list("a", "1"), diffs(both("a", "", "1"))},
		{list("a", "1"), list("a", ""), diffs(both("a", "1", ""))},
		{list("a", "1"), list("a", "1"), nil},
		{list("a", "1", "b", "2", "c", "3"), list("a", "1", "c", "3"), diffs(had("b", "2"))},
		{list("a", "1", "c", "3"), list("a", "1", "b", "2", "c", "3"), diffs(has("b", "2"))},
		{list("c", "1"), list("a", "1", "b", "1"), diffs(has("a", "1"), has("b", "1"), had("c", "1"))},
		{list("a", "1", "a", "1"), list("b", "1"), nil},
		{list("b", "1"), list("a", "-"), nil},
		{list("b", "1"), list("", "1"), nil},
		{many(33), nil, nil},
		{nil, many(33), nil},
		{many(32), many(31), diffs(had("k131", "31"))},
	} {
		if got := slices.Collect(labels.Diff(c.was, c.now)); !slices.Equal(got, c.want) {
			t.Errorf("Diff(%v, %v) gives %v, want %v", c.was, c.now, got, c.want)
		}
	}
}

// P3.10, R8: a walk may be walked again, broken off at each place, and walked while it is walked.
func TestDiffWalks(t *testing.T) {
	was, now := list("a", "1", "b", "2", "d", "4"), list("b", "3", "c", "4", "d", "4", "e", "")
	want := diffs(had("a", "1"), both("b", "2", "3"), has("c", "4"), has("e", ""))
	walk := labels.Diff(was, now)
	for stop := range len(want) + 1 {
		calls := 0
		walk(func(d api.LabelDiff) bool {
			if d != want[calls] {
				t.Errorf("walk broken off at %d: %v at %d", stop, d, calls)
			}
			calls++
			return calls < stop
		})
		if calls != max(1, min(stop, len(want))) {
			t.Errorf("broken off at %d: %d were given", stop, calls)
		}
		if got := slices.Collect(walk); !slices.Equal(got, want) {
			t.Errorf("walked again after %d: %v", stop, got)
		}
	}
	i := 0
	for d := range walk {
		if inner := slices.Collect(walk); d != want[i] || !slices.Equal(inner, want) {
			t.Errorf("walked within itself at %d: %v, %v", i, d, inner)
		}
		i++
	}
	if i != len(want) {
		t.Errorf("walked within itself: %d were given", i)
	}
}

// P3.10: what is written into the lists behind Diff, ahead of a walk or in its midst, changes nothing.
func TestDiffTellsOfThen(t *testing.T) {
	was, now := roomy(list("a", "1", "b", "2")), roomy(list("b", "3", "c", "4"))
	want := diffs(had("a", "1"), both("b", "2", "3"), has("c", "4"))
	walk := labels.Diff(was, now)
	for d := range walk {
		if d != want[0] {
			t.Errorf("first: %v", d)
		}
		break
	}
	i := 0
	for d := range walk {
		filled(was, api.Label{Key: "b", Value: "3"})
		filled(now, api.Label{Key: "", Value: "over"})
		if i >= len(want) || d != want[i] {
			t.Fatalf("written over in the midst: %v at %d", d, i)
		}
		i++
	}
	if got := slices.Collect(walk); i != len(want) || !slices.Equal(got, want) {
		t.Errorf("written over: %d, %v", i, got)
	}
	wrong := list("b", "1", "a", "1")
	walk = labels.Diff(wrong, nil)
	wrong[0].Key = "A"
	for d := range walk {
		t.Errorf("a list that was mended later gives %v", d)
	}
	if labels.Diff(wrong[:1:1], make([]api.Label, 40)) == nil {
		t.Error("a walk that gives nothing is nil")
	}
}

// P3.10, P3.12: lists of all kinds against the plain model, there and back.
func TestDiffAnyLists(t *testing.T) {
	r := rand.New(rand.NewPCG(3, 10))
	for range 10000 {
		was, now := anyList(r, 12), anyList(r, 12)
		switch r.IntN(6) {
		case 0:
			now = slices.Clone(was)
			if len(now) > 0 {
				now[r.IntN(len(now))].Value = oneOf(r, goodValues)
			}
		case 1:
			was = anyRaw(r)
		case 2:
			now = anyRaw(r)
		}
		got := slices.Collect(labels.Diff(was, now))
		if want := plainDiff(was, now); !slices.Equal(got, want) {
			t.Fatalf("Diff(%v, %v) gives %v, want %v", was, now, got, want)
		}
		_, err := labels.Check(was)
		_, err2 := labels.Check(now)
		if err == api.OK && err2 == api.OK {
			thereAndBack(t, was, now)
		}
	}
}

// P3.12: the ends of the limits.
func TestThereAndBack(t *testing.T) {
	other := many(32)
	for i := range other {
		other[i].Key += ".b"
	}
	lists := [][]api.Label{nil, list("a", ""), list("a", "1"), list("b", "1"), many(16), many(32), many(32)[16:], other, other[:5], longest()}
	for _, was := range lists {
		for _, now := range lists {
			thereAndBack(t, was, now)
		}
	}
}

func thereAndBack(t *testing.T, was, now []api.Label) {
	t.Helper()
	there := slices.Collect(labels.Diff(was, now))
	if got, err := labels.Patch(was, there); !slices.Equal(got, now) || err != api.OK {
		t.Errorf("Patch(%v, %v) = %v, %d, want %v", was, there, got, err, now)
	}
	back := slices.Clone(there)
	for i, d := range there {
		back[i] = api.LabelDiff{Key: d.Key, Had: d.Has, Old: d.New, Has: d.Had, New: d.Old}
	}
	if got, err := labels.Patch(now, back); !slices.Equal(got, was) || err != api.OK {
		t.Errorf("Patch(%v, %v) = %v, %d, want %v", now, back, got, err, was)
	}
	for d := range labels.Diff(was, was) {
		t.Errorf("Diff(%v) with itself gives %v", was, d)
	}
}

type patchCase struct {
	list  []api.Label
	diffs []api.LabelDiff
	want  []api.Label
	err   api.Errno
}

func checkPatches(t *testing.T, all []patchCase) {
	t.Helper()
	for _, c := range all {
		got, err := labels.Patch(c.list, c.diffs)
		if !slices.Equal(got, c.want) || err != c.err {
			t.Errorf("Patch(%v, %v) = %v, %d, want %v, %d", c.list, c.diffs, got, err, c.want, c.err)
		}
	}
}

// P3.11: Patch; example 7.
func TestPatch(t *testing.T) {
	ab := list("a", "1", "b", "2")
	full := many(32)
	var all, more []api.LabelDiff
	for _, l := range full {
		all = append(all, had(l.Key, l.Value), has(l.Key+".b", l.Value))
		more = append(more, has(l.Key+".b", l.Value))
	}
	other := slices.Clone(full)
	for i := range other {
		other[i].Key += ".b"
	}
	checkPatches(t, []patchCase{
		{nil, nil, nil, api.OK},
		{ab, nil, ab, api.OK},
		{nil, diffs(has("a", "1")), list("a", "1"), api.OK},
		{nil, diffs(has("a", "")), list("a", ""), api.OK},
		{list("a", ""), diffs(had("a", "")), nil, api.OK},
		{list("a", ""), diffs(both("a", "", "1")), list("a", "1"), api.OK},
		{list("a", "1"), diffs(both("a", "1", "")), list("a", ""), api.OK},
		{ab, diffs(had("a", "1"), both("b", "2", "3"), has("c", "4")), list("b", "3", "c", "4"), api.OK},
		{ab, diffs(has("B", "x"), has("a0", "y"), has("c", "z")), list("B", "x", "a", "1", "a0", "y", "b", "2", "c", "z"), api.OK},
		{full, all, other, api.OK},
		{nil, more, other, api.OK},
		{full, more, nil, api.ErrLabels},
		{full, more[:1], nil, api.ErrLabels},
		{full[:31], more[:1], append(list("k100", "0", "k100.b", "0"), full[1:31]...), api.OK},
		{full[:31], more[:2], nil, api.ErrLabels},
		{full, diffs(had("k100", "0"), has("k100.b", "0")), append(list("k100.b", "0"), full[1:]...), api.OK},
		{full, diffs(has("A", "0"), had("k131", "31")), append(list("A", "0"), full[:31]...), api.OK},
		{full, diffs(both("k100", "0", "1")), append(list("k100", "1"), full[1:]...), api.OK},
		{nil, append(slices.Clone(more), has("z", "")), nil, api.ErrLabels},
	})
}

// P3.11: each error, and which one comes first.
func TestPatchErrors(t *testing.T) {
	ab := list("a", "1", "b", "2")
	full := many(32)
	checkPatches(t, []patchCase{
		{list("a", "1"), diffs(had("a", "2")), nil, api.ErrLabelStale},
		{list("a", "1"), diffs(has("a", "2")), nil, api.ErrLabelStale},
		{list("a", "1"), diffs(has("a", "1")), nil, api.ErrLabelStale},
		{nil, diffs(had("a", "")), nil, api.ErrLabelStale},
		{list("b", "1"), diffs(had("a", "1")), nil, api.ErrLabelStale},
		{list("a", "1"), diffs(both("a", "2", "1")), nil, api.ErrLabelStale},
		{list("a", ""), diffs(has("a", "1")), nil, api.ErrLabelStale},
		{list("b", "1", "a", "1"), diffs(had("", "")), nil, api.ErrLabelOrder},
		{many(33), nil, nil, api.ErrLabels},
		{list("a", "-"), diffs(had("", "")), nil, api.ErrValue},
		{list("-a", ""), nil, nil, api.ErrKey},
		{list("a", "", "a", ""), nil, nil, api.ErrKeyDup},
		{ab, diffs(api.LabelDiff{}), nil, api.ErrKey},
		{ab, diffs(had("a-", "1")), nil, api.ErrKey},
		{ab, diffs(has(a63+"/"+a64, "1")), nil, api.ErrKey},
		{ab, diffs(had("a", "1"), had("a", "1")), nil, api.ErrKeyDup},
		{ab, diffs(had("a", "1"), has("a", "2")), nil, api.ErrKeyDup},
		{ab, diffs(had("a", "1"), api.LabelDiff{Key: "a"}), nil, api.ErrKeyDup},
		{ab, diffs(had("b", "2"), had("a", "1")), nil, api.ErrLabelOrder},
		{ab, diffs(had("b", "2"), api.LabelDiff{Key: "a"}), nil, api.ErrLabelOrder},
		{ab, diffs(had("b", "2"), has("a", "-")), nil, api.ErrLabelOrder},
		{ab, diffs(had("b", "2"), has("", "-")), nil, api.ErrKey},
		{ab, diffs(api.LabelDiff{Key: "a"}), nil, api.ErrLabelDiff},
		{ab, diffs(api.LabelDiff{Key: "a", Old: "1"}), nil, api.ErrLabelDiff},
		{ab, diffs(api.LabelDiff{Key: "a", New: "1"}), nil, api.ErrLabelDiff},
		{ab, diffs(api.LabelDiff{Key: "c", Has: true, New: "1", Old: "1"}), nil, api.ErrLabelDiff},
		{ab, diffs(api.LabelDiff{Key: "a", Had: true, Old: "1", New: "2"}), nil, api.ErrLabelDiff},
		{ab, diffs(api.LabelDiff{Key: "c", Has: true, New: "-", Old: "-"}), nil, api.ErrLabelDiff},
		{ab, diffs(both("a", "1", "1")), nil, api.ErrLabelDiff},
		{ab, diffs(both("c", "", "")), nil, api.ErrLabelDiff},
		{ab, diffs(both("c", "-", "-")), nil, api.ErrLabelDiff},
		{ab, diffs(had("a", "-")), nil, api.ErrValue},
		{ab, diffs(has("c", "-")), nil, api.ErrValue},
		{ab, diffs(has("c", a64)), nil, api.ErrValue},
		{ab, diffs(both("a", "-", "2")), nil, api.ErrValue},
		{ab, diffs(both("a", "1", "-")), nil, api.ErrValue},
		{ab, diffs(both("c", "1", "-")), nil, api.ErrValue},
		{ab, diffs(has("a", "-")), nil, api.ErrValue},
		{ab, diffs(had("a", "9"), has("", "")), nil, api.ErrLabelStale},
		{ab, diffs(had("a", "1"), has("", "")), nil, api.ErrKey},
		{ab, diffs(has("b", "9"), has("a", "")), nil, api.ErrLabelStale},
		{full, diffs(has("A", ""), has("B", "-")), nil, api.ErrValue},
		{full, diffs(has("A", ""), has("k100", "")), nil, api.ErrLabelStale},
		{full, diffs(has("A", ""), has("A", "")), nil, api.ErrKeyDup},
	})
}

// spoilt is the difference with one thing of it changed.
func spoilt(r *rand.Rand, d api.LabelDiff) api.LabelDiff {
	switch r.IntN(6) {
	case 0:
		d.Key = oneOf(r, append(slices.Clone(goodKeys), badKeys...))
	case 1:
		d.Had = !d.Had
	case 2:
		d.Has = !d.Has
	case 3:
		d.Old = oneOf(r, append(slices.Clone(goodValues), badValues...))
	case 4:
		d.New = oneOf(r, append(slices.Clone(goodValues), badValues...))
	case 5:
		d.Had, d.Has, d.Old, d.New = d.Has, d.Had, d.New, d.Old
	}
	return d
}

// anyDiffs are right ones for the list, with some that are spoilt, doubled or changed about.
func anyDiffs(r *rand.Rand, l []api.Label) []api.LabelDiff {
	all := plainDiff(l, anyList(r, 12))
	for range r.IntN(3) {
		if len(all) == 0 {
			break
		}
		i, j := r.IntN(len(all)), r.IntN(len(all))
		switch r.IntN(5) {
		case 0:
			all[i], all[j] = all[j], all[i]
		case 1:
			all = slices.Insert(all, i, all[j])
		default:
			all[i] = spoilt(r, all[i])
		}
	}
	return all
}

// P3.11: differences of all kinds against the plain model.
func TestPatchAnyDiffs(t *testing.T) {
	r := rand.New(rand.NewPCG(3, 11))
	seen := map[api.Errno]int{}
	for range 40000 {
		l := anyList(r, 12)
		d := anyDiffs(r, l)
		switch r.IntN(10) {
		case 0:
			l = anyRaw(r)
		case 1:
			l = append(anyList(r, 4), many(26)...)
			slices.SortFunc(l, func(a, b api.Label) int {
				if a.Key < b.Key {
					return -1
				}
				return 1
			})
			d = anyDiffs(r, l)
			if r.IntN(2) == 0 {
				d = slices.DeleteFunc(d, func(d api.LabelDiff) bool { return !d.Has })
			}
		}
		got, err := labels.Patch(l, d)
		want, wantErr := plainPatch(l, d)
		if !slices.Equal(got, want) || err != wantErr {
			t.Fatalf("Patch(%v, %v) = %v, %d, want %v, %d", l, d, got, err, want, wantErr)
		}
		seen[err]++
	}
	for _, err := range []api.Errno{api.OK, api.ErrKey, api.ErrValue, api.ErrKeyDup, api.ErrLabels, api.ErrLabelOrder, api.ErrLabelDiff, api.ErrLabelStale} {
		if seen[err] < 20 {
			t.Errorf("the error %d came %d times", err, seen[err])
		}
	}
}
