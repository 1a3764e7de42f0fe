package labels_test

import (
	"cmp"
	"maps"
	"math/big"
	"math/rand/v2"
	"regexp"
	"slices"
	"strconv"
	"strings"
	"testing"

	"berth/api"
	"berth/labels"
)

var (
	nameForm  = regexp.MustCompile(`^[a-z0-9]([a-z0-9-]*[a-z0-9])?(\.[a-z0-9]([a-z0-9-]*[a-z0-9])?)*$`)
	shortForm = regexp.MustCompile(`^[A-Za-z0-9]([A-Za-z0-9_.-]*[A-Za-z0-9])?$`)
	valueForm = regexp.MustCompile(`^(|([A-Za-z0-9-][A-Za-z0-9_.-]*)?[A-Za-z0-9])$`)
	intForm   = regexp.MustCompile(`^(0|-?[1-9][0-9]{0,14})$`)
)

// The plain models say what the chapter says, by other means than the program.

func plainName(s string) bool  { return len(s) <= 63 && nameForm.MatchString(s) }
func plainValue(s string) bool { return len(s) <= 63 && valueForm.MatchString(s) }

func plainKey(s string) bool {
	at := strings.LastIndexByte(s, '/')
	short := s[at+1:]
	return len(short) <= 63 && shortForm.MatchString(short) && (at < 0 || plainName(s[:at]))
}

func plainInt(s string) (int, bool) {
	if !intForm.MatchString(s) {
		return 0, false
	}
	n, _ := new(big.Int).SetString(s, 10)
	return int(n.Int64()), true
}

func plainLabel(l api.Label) api.Errno {
	return firstOf(fault{!plainKey(l.Key), api.ErrKey}, fault{!plainValue(l.Value), api.ErrValue})
}

type fault struct {
	is  bool
	err api.Errno
}

// firstOf is the first fault that is true.
func firstOf(all ...fault) api.Errno {
	for _, f := range all {
		if f.is {
			return f.err
		}
	}
	return api.OK
}

func plainCheck(list []api.Label) (int, api.Errno) {
	if len(list) >= 33 {
		return 32, api.ErrLabels
	}
	for i, l := range list {
		err := plainLabel(l)
		if err == api.OK && i > 0 {
			err = firstOf(fault{l.Key == list[i-1].Key, api.ErrKeyDup}, fault{l.Key < list[i-1].Key, api.ErrLabelOrder})
		}
		if err != api.OK {
			return i, err
		}
	}
	return 0, api.OK
}

func plainMake(list []api.Label) ([]api.Label, string, api.Errno) {
	if len(list) >= 33 {
		return nil, "", api.ErrLabels
	}
	seen := map[string]string{}
	for _, l := range list {
		_, again := seen[l.Key]
		if err := plainLabel(l); err != api.OK {
			return nil, l.Key, err
		} else if again {
			return nil, l.Key, api.ErrKeyDup
		}
		seen[l.Key] = l.Value
	}
	return fromMap(seen), "", api.OK
}

func plainParse(text string) ([]api.Label, int, api.Errno) {
	if len(text) >= 8193 {
		return nil, 0, api.ErrLabelsLong
	}
	if text == "" {
		return nil, 0, api.OK
	}
	starts := []int{0}
	for i := range len(text) {
		if text[i] == ',' {
			starts = append(starts, i+1)
		}
	}
	seen := map[string]string{}
	for i, at := range starts {
		end := len(text)
		if i+1 < len(starts) {
			end = starts[i+1] - 1
		}
		item := text[at:end]
		eq := strings.Index(item, "=")
		l := api.Label{}
		if eq >= 0 {
			l = api.Label{Key: item[:eq], Value: item[eq+1:]}
		}
		_, again := seen[l.Key]
		err := firstOf(fault{i >= 32, api.ErrLabels}, fault{eq < 0, api.ErrLabelText}, fault{!plainKey(l.Key), api.ErrKey}, fault{!plainValue(l.Value), api.ErrValue}, fault{again, api.ErrKeyDup})
		if err != api.OK {
			return nil, at, err
		}
		seen[l.Key] = l.Value
	}
	return fromMap(seen), 0, api.OK
}

func plainPut(list []api.Label, key, value string) ([]api.Label, api.Errno) {
	_, wrong := plainCheck(list)
	m := toMap(list)
	_, has := m[key]
	err := firstOf(fault{wrong != api.OK, wrong}, fault{!plainKey(key), api.ErrKey}, fault{!plainValue(value), api.ErrValue}, fault{!has && len(list) == 32, api.ErrLabels})
	if err != api.OK {
		return nil, err
	}
	m[key] = value
	return fromMap(m), api.OK
}

func plainDiff(was, now []api.Label) []api.LabelDiff {
	_, wrong := plainCheck(was)
	_, wrong2 := plainCheck(now)
	if wrong != api.OK || wrong2 != api.OK {
		return nil
	}
	a, b := toMap(was), toMap(now)
	both := maps.Clone(a)
	maps.Copy(both, b)
	var out []api.LabelDiff
	for _, key := range slices.Sorted(maps.Keys(both)) {
		old, had := a[key]
		fresh, has := b[key]
		if had && has && old == fresh {
			continue
		}
		out = append(out, api.LabelDiff{Key: key, Old: old, New: fresh, Had: had, Has: has})
	}
	return out
}

func plainPatch(list []api.Label, diffs []api.LabelDiff) ([]api.Label, api.Errno) {
	if _, err := plainCheck(list); err != api.OK {
		return nil, err
	}
	was := toMap(list)
	for i, d := range diffs {
		value, there := was[d.Key]
		nothing := !d.Had && !d.Has || !d.Had && d.Old != "" || !d.Has && d.New != "" || d.Had && d.Has && d.Old == d.New
		wrong := d.Had && !plainValue(d.Old) || d.Has && !plainValue(d.New)
		stale := d.Had && (!there || value != d.Old) || !d.Had && there
		err := firstOf(fault{!plainKey(d.Key), api.ErrKey},
			fault{i > 0 && d.Key == diffs[max(i, 1)-1].Key, api.ErrKeyDup},
			fault{i > 0 && d.Key < diffs[max(i, 1)-1].Key, api.ErrLabelOrder},
			fault{nothing, api.ErrLabelDiff}, fault{wrong, api.ErrValue}, fault{stale, api.ErrLabelStale})
		if err != api.OK {
			return nil, err
		}
	}
	for _, d := range diffs {
		delete(was, d.Key)
		if d.Has {
			was[d.Key] = d.New
		}
	}
	if len(was) > 32 {
		return nil, api.ErrLabels
	}
	return fromMap(was), api.OK
}

func toMap(list []api.Label) map[string]string {
	out := map[string]string{}
	for _, l := range list {
		out[l.Key] = l.Value
	}
	return out
}

func fromMap(m map[string]string) []api.Label {
	var out []api.Label
	for key, value := range m {
		out = append(out, api.Label{Key: key, Value: value})
	}
	slices.SortFunc(out, func(a, b api.Label) int { return cmp.Compare(a.Key, b.Key) })
	return out
}

// list is a list of labels from keys and values by turns.
func list(s ...string) []api.Label {
	out := []api.Label{}
	for i := 0; i < len(s); i += 2 {
		out = append(out, api.Label{Key: s[i], Value: s[i+1]})
	}
	return out
}

// many is a label list of n labels.
func many(n int) []api.Label {
	out := []api.Label{}
	for i := range n {
		out = append(out, api.Label{Key: "k" + strconv.Itoa(100+i), Value: strconv.Itoa(i)})
	}
	return out
}

func reversed(l []api.Label) []api.Label {
	out := slices.Clone(l)
	slices.Reverse(out)
	return out
}

var (
	goodKeys   = []string{"a", "b", "c", "d", "B", "a.b", "a-b", "a_b", "a/b", "x.y/z", "0", "a0", strings.Repeat("n", 63) + "/" + strings.Repeat("K", 63)}
	badKeys    = []string{"", "-a", "a-", "a/", "/a", "a/b/c", "A/b", "a=b", "a,b", "\xff", strings.Repeat("k", 64)}
	goodValues = []string{"", "1", "2", "-5", "x", "a..B", strings.Repeat("v", 63)}
	badValues  = []string{"-", "a-", ".a", "_a", "5 ", "x=y", "a/b", "\xc3\xa9", strings.Repeat("v", 64)}
)

func oneOf[T any](r *rand.Rand, from []T) T { return from[r.IntN(len(from))] }

// anyLabel is wrong one time in so many.
func anyLabel(r *rand.Rand, odds int) api.Label {
	l := api.Label{Key: oneOf(r, goodKeys), Value: oneOf(r, goodValues)}
	if r.IntN(odds) == 0 {
		l.Key = oneOf(r, badKeys)
	}
	if r.IntN(odds) == 0 {
		l.Value = oneOf(r, badValues)
	}
	return l
}

// anyList is a label list.
func anyList(r *rand.Rand, most int) []api.Label {
	m := map[string]string{}
	for range r.IntN(most + 1) {
		m[oneOf(r, goodKeys)] = oneOf(r, goodValues)
	}
	return fromMap(m)
}

// anyRaw is a list in any order, with doubles and wrong labels here and there.
func anyRaw(r *rand.Rand) []api.Label {
	var out []api.Label
	odds := 1 + r.IntN(40)
	for range r.IntN(8) {
		out = append(out, anyLabel(r, odds))
	}
	switch r.IntN(5) {
	case 0:
		slices.SortStableFunc(out, func(a, b api.Label) int { return cmp.Compare(a.Key, b.Key) })
	case 1:
		out = append(out, many(26+r.IntN(8))...)
	}
	return out
}

// texts gives every text of at most n pieces.
func texts(pieces []string, n int, each func(string)) {
	each("")
	if n == 0 {
		return
	}
	var grow func(s string, left int)
	grow = func(s string, left int) {
		for _, p := range pieces {
			each(s + p)
			if left > 1 {
				grow(s+p, left-1)
			}
		}
	}
	grow("", n)
}

func sameMade(t *testing.T, what any, got, want []api.Label, wrong bool) {
	t.Helper()
	if wrong || !slices.Equal(got, want) {
		t.Errorf("%v: %v, want %v", what, got, want)
	}
	if _, err := labels.Check(got); err != api.OK {
		t.Errorf("%v: %v is no label list: %d", what, got, err)
	}
}
