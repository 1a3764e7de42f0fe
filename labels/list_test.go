package labels_test

import (
	"math/rand/v2"
	"slices"
	"strconv"
	"strings"
	"testing"

	"berth/api"
	"berth/labels"
)

// P3.3: Check; example 4.
func TestCheck(t *testing.T) {
	late := many(32)
	late[31].Value = "-"
	for _, c := range []struct {
		list []api.Label
		at   int
		err  api.Errno
	}{
		{nil, 0, api.OK},
		{list(), 0, api.OK},
		{list("a", "1"), 0, api.OK},
		{list("a", "1", "b", ""), 0, api.OK},
		{list("Z", "", "a", ""), 0, api.OK},
		{list("a", "", "a-b", "", "a.b", "", "a/b", "", "a0", "", "a_b", "", "ab", ""), 0, api.OK},
		{list(a63+"/"+a63, a63), 0, api.OK},
		{many(32), 0, api.OK},
		{many(33), 32, api.ErrLabels},
		{make([]api.Label, 33), 32, api.ErrLabels},
		{make([]api.Label, 1000), 32, api.ErrLabels},
		{make([]api.Label, 32), 0, api.ErrKey},
		{late, 31, api.ErrValue},
		{list("b", "1", "a", "2"), 1, api.ErrLabelOrder},
		{list("a", "1", "a", "2"), 1, api.ErrKeyDup},
		{list("a", "1", "a", "1"), 1, api.ErrKeyDup},
		{list("a", "1", "b", "1", "a", "1"), 2, api.ErrLabelOrder},
		{list("a", "1", "Z", "1"), 1, api.ErrLabelOrder},
		{list("", "1"), 0, api.ErrKey},
		{list("a-", "-"), 0, api.ErrKey},
		{list("a", "-"), 0, api.ErrValue},
		{list("a", "1", "a", "-"), 1, api.ErrValue},
		{list("b", "1", "a", "-"), 1, api.ErrValue},
		{list("b", "1", "a/", "1"), 1, api.ErrKey},
		{list("/", "1", "/", "1"), 0, api.ErrKey},
		{list("a", "1", "", "1"), 1, api.ErrKey},
		{list("b", "1", "a", "2", "", ""), 1, api.ErrLabelOrder},
		{list("b", "-", "a", "2"), 0, api.ErrValue},
		{list(a64, ""), 0, api.ErrKey},
		{list("a", a64), 0, api.ErrValue},
	} {
		if at, err := labels.Check(c.list); at != c.at || err != c.err {
			t.Errorf("Check(%v) = %d, %d, want %d, %d", c.list, at, err, c.at, c.err)
		}
	}
}

// P3.4: Make; example 4.
func TestMake(t *testing.T) {
	for _, c := range []struct {
		list, want []api.Label
		key        string
		err        api.Errno
	}{
		{nil, nil, "", api.OK},
		{list("b", "1", "a", "2"), list("a", "2", "b", "1"), "", api.OK},
		{list("a", "1", "B", "", "a/b", "2", "a.b", "3"), list("B", "", "a", "1", "a.b", "3", "a/b", "2"), "", api.OK},
		{list("a", "1", "b", "2", "a", "3"), nil, "a", api.ErrKeyDup},
		{list("a", "1", "b", "2", "a", "1"), nil, "a", api.ErrKeyDup},
		{list("a", "1", "b", "2", "b", "3", "a", "4"), nil, "b", api.ErrKeyDup},
		{list("a", "1", "a", "-"), nil, "a", api.ErrValue},
		{list("a", "1", "b-", "-"), nil, "b-", api.ErrKey},
		{list("", "1"), nil, "", api.ErrKey},
		{list("\xff,=", "1"), nil, "\xff,=", api.ErrKey},
		{list("a", "-", "", ""), nil, "a", api.ErrValue},
		{list("b", "-", "a", "-"), nil, "b", api.ErrValue},
		{list("", "", "a", "-"), nil, "", api.ErrKey},
		{list("/", "", "/", ""), nil, "/", api.ErrKey},
		{list(a64, ""), nil, a64, api.ErrKey},
		{list(strings.Repeat("k", 9000), ""), nil, strings.Repeat("k", 9000), api.ErrKey},
		{reversed(many(32)), many(32), "", api.OK},
		{many(33), nil, "", api.ErrLabels},
		{make([]api.Label, 33), nil, "", api.ErrLabels},
		{append(many(31), many(1)...), nil, "k100", api.ErrKeyDup},
	} {
		got, key, err := labels.Make(c.list)
		if !slices.Equal(got, c.want) || key != c.key || err != c.err {
			t.Errorf("Make(%v) = %v, %q, %d, want %v, %q, %d", c.list, got, key, err, c.want, c.key, c.err)
		}
	}
}

// P3.3, P3.4, P3.6: lists of all kinds against the plain models.
func TestAnyList(t *testing.T) {
	r := rand.New(rand.NewPCG(3, 3))
	seen := map[api.Errno]int{}
	for range 20000 {
		l := anyRaw(r)
		at, err := labels.Check(l)
		if wantAt, want := plainCheck(l); at != wantAt || err != want {
			t.Fatalf("Check(%v) = %d, %d, want %d, %d", l, at, err, wantAt, want)
		}
		made, key, makeErr := labels.Make(l)
		want, wantKey, wantErr := plainMake(l)
		sameMade(t, l, made, want, key != wantKey || makeErr != wantErr)
		if s, textErr := labels.Text(l); textErr != err || err != api.OK && s != "" {
			t.Fatalf("Text(%v) = %q, %d, want the error %d", l, s, textErr, err)
		}
		seen[err]++
	}
	for _, err := range []api.Errno{api.OK, api.ErrKey, api.ErrValue, api.ErrKeyDup, api.ErrLabels, api.ErrLabelOrder} {
		if seen[err] < 20 {
			t.Errorf("the error %d came %d times", err, seen[err])
		}
	}
}

// joined is the text of any labels, in the order in which they stand.
func joined(l []api.Label) string {
	var items []string
	for _, x := range l {
		items = append(items, x.Key+"="+x.Value)
	}
	return strings.Join(items, ",")
}

// longest is the label list with the longest text.
func longest() []api.Label {
	var out []api.Label
	for i := range 32 {
		out = append(out, api.Label{Key: a63 + "/" + strconv.Itoa(10+i) + a63[2:], Value: a63})
	}
	return out
}

// P3.5: Parse; example 3.
func TestParse(t *testing.T) {
	junk := strings.Repeat("x", 8192)
	for _, c := range []struct {
		text string
		want []api.Label
		at   int
		err  api.Errno
	}{
		{"", nil, 0, api.OK},
		{"a=", list("a", ""), 0, api.OK},
		{"b=2,a=1", list("a", "1", "b", "2"), 0, api.OK},
		{"x.y/z=-5,a=", list("a", "", "x.y/z", "-5"), 0, api.OK},
		{"a=1,,b=2", nil, 4, api.ErrLabelText},
		{"a=1,", nil, 4, api.ErrLabelText},
		{",a=1", nil, 0, api.ErrLabelText},
		{",", nil, 0, api.ErrLabelText},
		{",,", nil, 0, api.ErrLabelText},
		{"a=1,b=2,", nil, 8, api.ErrLabelText},
		{"a", nil, 0, api.ErrLabelText},
		{"-", nil, 0, api.ErrLabelText},
		{"a=1,b=x=y", nil, 4, api.ErrValue},
		{"a=1,b,a=2", nil, 4, api.ErrLabelText},
		{"a=1,a=2", nil, 4, api.ErrKeyDup},
		{"a=1,bb=1,a=1", nil, 9, api.ErrKeyDup},
		{"a=1,a=2,=", nil, 4, api.ErrKeyDup},
		{"a=1,a=-", nil, 4, api.ErrValue},
		{"a=1,a", nil, 4, api.ErrLabelText},
		{"=1", nil, 0, api.ErrKey},
		{"=", nil, 0, api.ErrKey},
		{"==", nil, 0, api.ErrKey},
		{"a==", nil, 0, api.ErrValue},
		{"a= 1", nil, 0, api.ErrValue},
		{"a =1", nil, 0, api.ErrKey},
		{"a=1, b=2", nil, 4, api.ErrKey},
		{"a-=-", nil, 0, api.ErrKey},
		{"a/b/c=1", nil, 0, api.ErrKey},
		{"a=1;b=2", nil, 0, api.ErrValue},
		{"\xff=1", nil, 0, api.ErrKey},
		{"a=1,b=\u00e9", nil, 4, api.ErrValue},
		{a63 + "/" + a63 + "=" + a63, list(a63+"/"+a63, a63), 0, api.OK},
		{"a=," + a63 + "/" + a64 + "=" + a63, nil, 3, api.ErrKey},
		{"a=,b=" + a64, nil, 3, api.ErrValue},
		{joined(longest()), longest(), 0, api.OK},
		{joined(reversed(longest())), longest(), 0, api.OK},
		{joined(many(32)), many(32), 0, api.OK},
		{joined(many(33)), nil, len(joined(many(32))) + 1, api.ErrLabels},
		{joined(many(32)) + ",", nil, len(joined(many(32))) + 1, api.ErrLabels},
		{joined(many(32)) + ",-,", nil, len(joined(many(32))) + 1, api.ErrLabels},
		{joined(many(32)) + ",k100=", nil, len(joined(many(32))) + 1, api.ErrLabels},
		{joined(many(31)) + ",", nil, len(joined(many(31))) + 1, api.ErrLabelText},
		{"k130=," + joined(many(33)), nil, len("k130=," + joined(many(30)) + ","), api.ErrKeyDup},
		{"k131=," + joined(many(33)), nil, len("k131=," + joined(many(31)) + ","), api.ErrLabels},
		{junk, nil, 0, api.ErrLabelText},
		{junk + "x", nil, 0, api.ErrLabelsLong},
		{"a=1," + junk[4:], nil, 4, api.ErrLabelText},
		{"a=1," + junk[3:], nil, 0, api.ErrLabelsLong},
		{strings.Repeat(",", 8192), nil, 0, api.ErrLabelText},
		{strings.Repeat(",", 8193), nil, 0, api.ErrLabelsLong},
		{strings.Repeat("=", 100000), nil, 0, api.ErrLabelsLong},
	} {
		got, at, err := labels.Parse(c.text)
		if !slices.Equal(got, c.want) || at != c.at || err != c.err {
			t.Errorf("Parse(%.60q) = %v, %d, %d, want %v, %d, %d", c.text, got, at, err, c.want, c.at, c.err)
		}
		sameParse(t, c.text)
	}
}

func sameParse(t *testing.T, text string) {
	t.Helper()
	got, at, err := labels.Parse(text)
	want, wantAt, wantErr := plainParse(text)
	if !slices.Equal(got, want) || at != wantAt || err != wantErr {
		t.Errorf("Parse(%q) = %v, %d, %d, want %v, %d, %d", text, got, at, err, want, wantAt, wantErr)
	}
	if err != api.OK {
		return
	}
	s, textErr := labels.Text(got)
	items, sorted := strings.Split(text, ","), strings.Split(s, ",")
	slices.SortFunc(items, func(a, b string) int {
		return strings.Compare(strings.Split(a, "=")[0], strings.Split(b, "=")[0])
	})
	if textErr != api.OK || len(s) != len(text) || !slices.Equal(items, sorted) {
		t.Errorf("Text of Parse(%q) = %q, %d", text, s, textErr)
	}
}

// P3.5, P3.6: every text of up to seven bytes out of those that tell.
func TestParseAllShortTexts(t *testing.T) {
	texts([]string{"a", "b", "-", "=", ","}, 7, func(s string) { sameParse(t, s) })
}

// P3.5, P3.6: texts of many items, with a byte put in, taken out or changed.
func TestParseAnyText(t *testing.T) {
	r := rand.New(rand.NewPCG(3, 5))
	for range 20000 {
		s := joined(anyRaw(r))
		for range r.IntN(3) {
			at := r.IntN(len(s) + 1)
			end := min(len(s), at+r.IntN(2))
			s = s[:at] + oneOf(r, []string{"", ",", "=", "-", "a", "\xff"}) + s[end:]
		}
		sameParse(t, s)
	}
}

// P3.6: Text, and the way back.
func TestText(t *testing.T) {
	for _, c := range []struct {
		list []api.Label
		want string
		err  api.Errno
	}{
		{nil, "", api.OK},
		{list("app", "web", "tier", ""), "app=web,tier=", api.OK},
		{list("a", ""), "a=", api.OK},
		{list("Z", "-5", "a.b/C", "x"), "Z=-5,a.b/C=x", api.OK},
		{many(32), joined(many(32)), api.OK},
		{many(33), "", api.ErrLabels},
		{list("b", "1", "a", "1"), "", api.ErrLabelOrder},
		{list("a", "1", "a", "1"), "", api.ErrKeyDup},
		{list("a", "1", "", "1"), "", api.ErrKey},
		{list("a", "x,y"), "", api.ErrValue},
		{list("a", "-", "", "1"), "", api.ErrValue},
	} {
		if s, err := labels.Text(c.list); s != c.want || err != c.err {
			t.Errorf("Text(%v) = %q, %d, want %q, %d", c.list, s, err, c.want, c.err)
		}
	}
	r := rand.New(rand.NewPCG(3, 6))
	lists := [][]api.Label{nil, many(1), many(32), longest()}
	for range 3000 {
		lists = append(lists, anyList(r, 12))
	}
	for _, l := range lists {
		s, err := labels.Text(l)
		if s != joined(l) || err != api.OK || len(s) > 8192 {
			t.Errorf("Text(%v) = %q, %d", l, s, err)
		}
		if back, at, err := labels.Parse(s); !slices.Equal(back, l) || at != 0 || err != api.OK {
			t.Errorf("Parse(Text(%v)) = %v, %d, %d", l, back, at, err)
		}
	}
}

// P3.7: Get, of raw lists and of any text as a key.
func TestGet(t *testing.T) {
	raw := list("b", "1", "a", "2", "b", "3", "", "x y", "-", "", "a", "")
	for _, c := range []struct {
		list  []api.Label
		key   string
		value string
		has   bool
	}{
		{raw, "b", "1", true},
		{raw, "a", "2", true},
		{raw, "", "x y", true},
		{raw, "-", "", true},
		{raw, "c", "", false},
		{raw, "B", "", false},
		{nil, "", "", false},
		{nil, "a", "", false},
		{list("a", ""), "a", "", true},
		{list("a", "1"), "", "", false},
		{many(100), "k199", "99", true},
		{many(100), "k200", "", false},
	} {
		if value, has := labels.Get(c.list, c.key); value != c.value || has != c.has {
			t.Errorf("Get(%v, %q) = %q, %v", c.list, c.key, value, has)
		}
	}
}

// P3.8: Put; example 5.
func TestPut(t *testing.T) {
	full := many(32)
	for _, c := range []struct {
		list       []api.Label
		key, value string
		want       []api.Label
		err        api.Errno
	}{
		{nil, "a", "1", list("a", "1"), api.OK},
		{list("a", "1"), "a", "2", list("a", "2"), api.OK},
		{list("a", "1"), "a", "1", list("a", "1"), api.OK},
		{list("b", "1"), "a", "", list("a", "", "b", "1"), api.OK},
		{list("a", "1", "c", "3"), "b", "2", list("a", "1", "b", "2", "c", "3"), api.OK},
		{list("a", "1", "c", "3"), "d", "4", list("a", "1", "c", "3", "d", "4"), api.OK},
		{list("a", "1", "b", "2", "c", "3"), "b", "", list("a", "1", "b", "", "c", "3"), api.OK},
		{list("b", "1", "a", "1"), "c", "1", nil, api.ErrLabelOrder},
		{list("a", "1", "a", "1"), "a", "1", nil, api.ErrKeyDup},
		{list("b", "1", "a", "1"), "", "-", nil, api.ErrLabelOrder},
		{list("a", "-"), "", "-", nil, api.ErrValue},
		{list("", ""), "a", "-", nil, api.ErrKey},
		{list("a", "1"), "", "-", nil, api.ErrKey},
		{list("a", "1"), "a", "-", nil, api.ErrValue},
		{list("a", "1"), "b/", "1", nil, api.ErrKey},
		{full[:31], "z", "1", append(slices.Clone(full[:31]), api.Label{Key: "z", Value: "1"}), api.OK},
		{full, "k100", "x", append(list("k100", "x"), full[1:]...), api.OK},
		{full, "k131", "x", append(slices.Clone(full[:31]), api.Label{Key: "k131", Value: "x"}), api.OK},
		{full, "z", "1", nil, api.ErrLabels},
		{full, "", "1", nil, api.ErrKey},
		{full, "z", "-", nil, api.ErrValue},
		{many(33), "k100", "-", nil, api.ErrLabels},
	} {
		got, err := labels.Put(c.list, c.key, c.value)
		if !slices.Equal(got, c.want) || err != c.err {
			t.Errorf("Put(%v, %q, %q) = %v, %d, want %v, %d", c.list, c.key, c.value, got, err, c.want, c.err)
		}
	}
	r := rand.New(rand.NewPCG(3, 8))
	for range 20000 {
		l, put := anyList(r, 12), anyLabel(r, 10)
		if r.IntN(4) == 0 {
			l = anyRaw(r)
		}
		got, err := labels.Put(l, put.Key, put.Value)
		want, wantErr := plainPut(l, put.Key, put.Value)
		sameMade(t, put, got, want, err != wantErr)
	}
}

// P3.9: Del, of raw lists and of any text as a key; example 5.
func TestDel(t *testing.T) {
	raw := list("b", "1", "a", "2", "b", "3", "", "x y", "-", "", "a", "")
	for _, c := range []struct {
		list []api.Label
		key  string
		want []api.Label
		had  bool
	}{
		{list("b", "1", "a", "2", "b", "3"), "b", list("a", "2"), true},
		{list("a", "1"), "b", list("a", "1"), false},
		{list("a", "1"), "a", nil, true},
		{list("a", "1"), "", list("a", "1"), false},
		{list("a", "1", "a", "2"), "a", nil, true},
		{nil, "a", nil, false},
		{nil, "", nil, false},
		{raw, "", list("b", "1", "a", "2", "b", "3", "-", "", "a", ""), true},
		{raw, "a", list("b", "1", "b", "3", "", "x y", "-", ""), true},
		{raw, "c", raw, false},
		{many(100), "k199", many(99), true},
		{many(100), "k200", many(100), false},
	} {
		got, had := labels.Del(c.list, c.key)
		if !slices.Equal(got, c.want) || had != c.had {
			t.Errorf("Del(%v, %q) = %v, %v, want %v, %v", c.list, c.key, got, had, c.want, c.had)
		}
	}
}
