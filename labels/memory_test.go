package labels_test

import (
	"math/rand/v2"
	"slices"
	"testing"

	"berth/api"
	"berth/labels"
)

var spare = api.Label{Key: "spare", Value: "room"}

// roomy is the list with spare room behind it that is filled.
func roomy(l []api.Label) []api.Label {
	whole := append(slices.Clone(l), spare, spare, spare)
	return whole[:len(l):len(whole)]
}

func roomyDiffs(d []api.LabelDiff) []api.LabelDiff {
	whole := append(slices.Clone(d), has("spare", "room"), has("spare", "room"))
	return whole[:len(d):len(whole)]
}

func filled[T any](l []T, by T) {
	l = l[:cap(l)]
	for i := range l {
		l[i] = by
	}
}

func untouched(got, want []api.Label) bool {
	return slices.Equal(got, want) && slices.Equal(got[len(got):cap(got)], roomy(want)[len(want):len(want)+3])
}

func untouchedDiffs(got, want []api.LabelDiff) bool {
	return slices.Equal(got, want) && slices.Equal(got[len(got):cap(got)], roomyDiffs(want)[len(want):len(want)+2])
}

// handed is what the calls are given.
type handed struct {
	was, now []api.Label
	diffs    []api.LabelDiff
	key      string
}

func (h handed) copied() handed {
	return handed{roomy(h.was), roomy(h.now), roomyDiffs(h.diffs), h.key}
}

func (h handed) overwrite() {
	filled(h.was, api.Label{Key: "under", Value: "2"})
	filled(h.now, api.Label{Key: "under", Value: "2"})
	filled(h.diffs, had("under", "2"))
}

func (h handed) is(o handed) bool {
	return untouched(h.was, o.was) && untouched(h.now, o.now) && untouchedDiffs(h.diffs, o.diffs)
}

// listCalls are all calls that are handed lists, with the list that each answers.
func listCalls() map[string]func(h handed) []api.Label {
	return map[string]func(h handed) []api.Label{
		"Check": func(h handed) []api.Label { labels.Check(h.was); return nil },
		"Make":  func(h handed) []api.Label { l, _, _ := labels.Make(h.was); return l },
		"Text":  func(h handed) []api.Label { labels.Text(h.was); return nil },
		"Get":   func(h handed) []api.Label { labels.Get(h.was, h.key); return nil },
		"Put":   func(h handed) []api.Label { l, _ := labels.Put(h.was, h.key, "1"); return l },
		"Del":   func(h handed) []api.Label { l, _ := labels.Del(h.was, h.key); return l },
		"Patch": func(h handed) []api.Label { l, _ := labels.Patch(h.was, h.diffs); return l },
		"Diff": func(h handed) []api.Label {
			for range labels.Diff(h.was, h.now) {
			}
			return nil
		},
	}
}

// R6: no call changes what it is handed, spare room included, and what it answers is new memory, spare room too: whoever writes over the answer changes no argument, and whoever writes over an argument changes no answer.
func TestListsAreNeitherChangedNorKept(t *testing.T) {
	r := rand.New(rand.NewPCG(3, 12))
	all := []handed{{key: "a"}, {was: many(32), now: many(33), key: "k100"}, {was: many(31), now: many(32), key: "z"}, {was: reversed(many(32)), key: "k131"}, {was: list("a", "1"), key: "a"}, {was: list("a", "1"), key: "b"}, {was: many(5), now: many(6), diffs: diffs(has("A", "1"), had("k104", "4")), key: "k102"}}
	for range 500 {
		l := anyList(r, 6)
		all = append(all, handed{l, anyList(r, 6), anyDiffs(r, l), oneOf(r, goodKeys)}, handed{anyRaw(r), anyRaw(r), anyDiffs(r, l), oneOf(r, badKeys)}, handed{l, l, nil, oneOf(r, goodKeys)})
	}
	for name, call := range listCalls() {
		for _, h := range all {
			c := h.copied()
			out := call(c)
			if !c.is(h) {
				t.Fatalf("%s changed what it was handed: %v", name, h)
			}
			want := slices.Clone(out)
			filled(out, api.Label{Key: "over", Value: "1"})
			if !c.is(h) {
				t.Fatalf("%s of %v answers memory of an argument", name, h)
			}
			copy(out, want)
			c.overwrite()
			if !slices.Equal(out, want) {
				t.Fatalf("%s of %v answers memory of an argument", name, h)
			}
			if again := call(h.copied()); !slices.Equal(again, want) {
				t.Fatalf("%s of %v answers %v, then %v", name, h, want, again)
			}
		}
	}
}

// R6: no two answers of Parse share memory.
func TestParseAnswersNewMemory(t *testing.T) {
	const text = "b=2,a=1,c=3"
	one, _, _ := labels.Parse(text)
	filled(one, api.Label{Key: "over"})
	if two, _, _ := labels.Parse(text); !slices.Equal(two, list("a", "1", "b", "2", "c", "3")) {
		t.Errorf("Parse(%q) = %v", text, two)
	}
}

// R5: an empty list that is nil and one that isn't mean the same.
func TestNilAndEmpty(t *testing.T) {
	for _, l := range [][]api.Label{nil, {}, make([]api.Label, 0, 4)} {
		if at, err := labels.Check(l); at != 0 || err != api.OK {
			t.Errorf("Check of the empty list: %d, %d", at, err)
		}
		if s, err := labels.Text(l); s != "" || err != api.OK {
			t.Errorf("Text of the empty list: %q, %d", s, err)
		}
		for _, d := range [][]api.LabelDiff{nil, {}} {
			if got, err := labels.Patch(l, d); len(got) != 0 || err != api.OK {
				t.Errorf("Patch of the empty list: %v, %d", got, err)
			}
		}
		for d := range labels.Diff(l, []api.Label{}) {
			t.Errorf("Diff of empty lists gives %v", d)
		}
	}
}
