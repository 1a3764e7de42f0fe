package quant_test

import (
	"math"
	"math/rand/v2"
	"slices"
	"strconv"
	"strings"
	"testing"

	"berth/api"
	"berth/quant"
)

// P2.3: IsName.
func TestIsName(t *testing.T) {
	for _, s := range []string{"a", "z", "cpu", "a0", "a9", "x.io/y-z", "a--b", "a..b", "a//b", "a-./9", strings.Repeat("a", 31), strings.Repeat("a", 32), "a" + strings.Repeat("-", 30) + "9"} {
		if !quant.IsName(s) {
			t.Errorf("IsName(%q) is false", s)
		}
	}
	for _, s := range []string{"", "0", "9a", "-a", ".a", "/a", "a-", "a.", "a/", "-", "A", "aB", "aBc", "a b", "a_b", "a=b", "a,b", " a", "a ", "a\n", "a\x00", "a\x00b", "\xff", "a\xc3", "a\xc3\xa9", "\u00e9", "a\u0660b", strings.Repeat("a", 33), strings.Repeat("a", 5000), "a" + strings.Repeat("-", 31)} {
		if quant.IsName(s) {
			t.Errorf("IsName(%q) is true", s)
		}
	}
	for c := range 256 {
		b := string([]byte{byte(c)})
		for _, s := range []string{b, "a" + b, b + "a", "a" + b + "a"} {
			if got := quant.IsName(s); got != nameForm.MatchString(s) {
				t.Errorf("IsName(%q) is %v", s, got)
			}
		}
	}
}

type listCase struct {
	items []api.Item
	want  []api.Item
	name  string
	err   api.Errno
}

// P2.3: Make.
func TestMake(t *testing.T) {
	sixteen := many(16)
	backward := slices.Clone(sixteen)
	slices.Reverse(backward)
	noughts := slices.Clone(sixteen)
	for i := range noughts {
		noughts[i].N = 0
	}
	for _, c := range []listCase{
		{nil, nil, "", api.OK},
		{items(), nil, "", api.OK},
		{items("mem", 2, "gpu", 0, "cpu", 1), items("cpu", 1, "mem", 2), "", api.OK},
		{items("cpu", 0, "cpu", 1), nil, "cpu", api.ErrQuantOrder},
		{items("cpu", 1, "cpu", 0), nil, "cpu", api.ErrQuantOrder},
		{items("b", 0, "a", 1, "a", 1, "b", 0), nil, "a", api.ErrQuantOrder},
		{items("a", 1, "b", 1, "b", 2, "a", 1), nil, "b", api.ErrQuantOrder},
		{items("a", 0), nil, "", api.OK},
		{items("a", most, "A", 1), nil, "A", api.ErrQuantName},
		{items("", 1), nil, "", api.ErrQuantName},
		{items("a", 1, "", -1), nil, "", api.ErrQuantName},
		{items("b-", -1), nil, "b-", api.ErrQuantName},
		{items("a", -1, "A", 2), nil, "a", api.ErrQuantZero},
		{items("A", 2, "a", -1), nil, "A", api.ErrQuantName},
		{items("a", math.MinInt), nil, "a", api.ErrQuantZero},
		{items("a", 1, "a", -1), nil, "a", api.ErrQuantZero},
		{items("a", 1, "a", 2, "b", -1), nil, "a", api.ErrQuantOrder},
		{items("a", 1, "b", -1, "a", 2), nil, "b", api.ErrQuantZero},
		{items("b", most, "a", most), items("a", most, "b", most), "", api.OK},
		{items("a/b", 1, "a.b", 2, "a-b", 3, "a0", 4, "ab", 5, "a", 6), items("a", 6, "a-b", 3, "a.b", 2, "a/b", 1, "a0", 4, "ab", 5), "", api.OK},
		{items(strings.Repeat("a", 33), 1), nil, strings.Repeat("a", 33), api.ErrQuantName},
		{items(strings.Repeat("a", 32), 1), items(strings.Repeat("a", 32), 1), "", api.OK},
		{sixteen, sixteen, "", api.OK},
		{backward, sixteen, "", api.OK},
		{noughts, nil, "", api.OK},
		{many(17), nil, "", api.ErrQuantMany},
		{append(slices.Clone(noughts), api.Item{Name: "z"}), nil, "", api.ErrQuantMany},
		{make([]api.Item, 17), nil, "", api.ErrQuantMany},
		{make([]api.Item, 16), nil, "", api.ErrQuantName},
	} {
		if l, name, err := quant.Make(c.items); !sameList(l, c.want) || name != c.name || err != c.err {
			t.Errorf("Make(%v) = %v, %q, %d, want %v, %q, %d", c.items, l, name, err, c.want, c.name, c.err)
		}
	}
}

// P2.3: Check.
func TestCheck(t *testing.T) {
	for _, c := range []struct {
		items []api.Item
		want  api.Errno
	}{
		{nil, api.OK},
		{items(), api.OK},
		{items("a", 1), api.OK},
		{items("a", most, "b", 1), api.OK},
		{items("cpu", 0), api.ErrQuantZero},
		{items("a", -1), api.ErrQuantZero},
		{items("a", math.MinInt), api.ErrQuantZero},
		{items("", 1), api.ErrQuantName},
		{items("A", 0), api.ErrQuantName},
		{items("a-", 1), api.ErrQuantName},
		{items("b", 1, "a", 1), api.ErrQuantOrder},
		{items("a", 1, "a", 1), api.ErrQuantOrder},
		{items("a", 1, "c", 1, "b", 1), api.ErrQuantOrder},
		{items("b", 1, "a", 0), api.ErrQuantZero},
		{items("b", 1, "a", 1, "", 1), api.ErrQuantOrder},
		{items("a", 0, "", 1), api.ErrQuantZero},
		{items("a", 1, "", 0), api.ErrQuantName},
		{items("ab", 1, "a", 1), api.ErrQuantOrder},
		{items("a", 1, "ab", 1), api.OK},
		{items("a-b", 1, "a.b", 1, "a/b", 1, "a0", 1), api.OK},
		{many(16), api.OK},
		{many(17), api.ErrQuantMany},
		{make([]api.Item, 16), api.ErrQuantName},
		{make([]api.Item, 17), api.ErrQuantMany},
	} {
		if err := quant.Check(c.items); err != c.want {
			t.Errorf("Check(%v) = %d, want %d", c.items, err, c.want)
		}
		if err := plainCheck(c.items); err != c.want {
			t.Errorf("the test's own check of %v: %d, want %d", c.items, err, c.want)
		}
	}
}

// P2.3: what Make accepts is right, by Check; Make of a right list is that list.
func TestMakeAndCheck(t *testing.T) {
	r := rand.New(rand.NewPCG(3, 1))
	for range 20000 {
		l := anyRaw(r)
		want := plainCheck(l)
		if err := quant.Check(l); err != want {
			t.Fatalf("Check(%v) = %d, want %d", l, err, want)
		}
		made, name, err := quant.Make(l)
		if err != api.OK {
			if len(made) != 0 || want == api.OK {
				t.Fatalf("Make(%v) = %v, %q, %d", l, made, name, err)
			}
			continue
		}
		if plainCheck(made) != api.OK || name != "" || !sameList(made, rightOf(byName(l))) {
			t.Fatalf("Make(%v) = %v, %q", l, made, name)
		}
		if want == api.OK && !sameList(made, l) {
			t.Fatalf("Make(%v) = %v", l, made)
		}
	}
}

// nines is a list text of n items.
func nines(n int) string {
	var all []string
	for _, it := range many(n) {
		all = append(all, it.Name+"=9")
	}
	return strings.Join(all, ",")
}

func ninesList(n int) []api.Item {
	l := many(n)
	for i := range l {
		l[i].N = 9
	}
	return l
}

// P2.3: ParseList.
func TestParseList(t *testing.T) {
	long := strings.Repeat("a", 32) + "=" + strings.Repeat("0", 32)
	for _, c := range []struct {
		text string
		want []api.Item
		at   int
		err  api.Errno
	}{
		{"", nil, 0, api.OK},
		{"mem=1.5Gi,cpu=4", items("cpu", 4, "mem", 1610612736), 0, api.OK},
		{"cpu=0,gpu=2", items("gpu", 2), 0, api.OK},
		{"cpu=0", nil, 0, api.OK},
		{"cpu=0.000Ei", nil, 0, api.OK},
		{"cpu=9223372036854775807", items("cpu", most), 0, api.OK},
		{"cpu=1,cpu=0", nil, 6, api.ErrQuantOrder},
		{"cpu=0,cpu=0", nil, 6, api.ErrQuantOrder},
		{"a=1,b=1,a=1,b=1", nil, 8, api.ErrQuantOrder},
		{"cpu=1,mem=x", nil, 10, api.ErrQuantForm},
		{"cpu=1,mem=1.5Kx", nil, 14, api.ErrQuantForm},
		{"cpu=1,mem=", nil, 10, api.ErrQuantForm},
		{"cpu=", nil, 4, api.ErrQuantForm},
		{"cpu=1.,mem=1", nil, 6, api.ErrQuantForm},
		{"cpu=1,", nil, 6, api.ErrQuantName},
		{",cpu=1", nil, 0, api.ErrQuantName},
		{"cpu=1,,mem=1", nil, 6, api.ErrQuantName},
		{",", nil, 0, api.ErrQuantName},
		{"cpu", nil, 0, api.ErrQuantName},
		{"=1", nil, 0, api.ErrQuantName},
		{"=", nil, 0, api.ErrQuantName},
		{"Cpu=1", nil, 0, api.ErrQuantName},
		{"a=1, b=1", nil, 4, api.ErrQuantName},
		{"a =1", nil, 0, api.ErrQuantName},
		{"a= 1", nil, 2, api.ErrQuantForm},
		{"cpu=1=2", nil, 5, api.ErrQuantForm},
		{"cpu==2", nil, 4, api.ErrQuantForm},
		{"a=0.5", nil, 2, api.ErrQuantWhole},
		{"a=1,b=0.5", nil, 6, api.ErrQuantWhole},
		{"a=8Ei", nil, 2, api.ErrQuantBig},
		{"a=1,bc=8Ei,d=x", nil, 7, api.ErrQuantBig},
		{"a=1,a=x", nil, 6, api.ErrQuantForm},
		{"a=1,a=1,B=1", nil, 4, api.ErrQuantOrder},
		{"a=-1", nil, 2, api.ErrQuantForm},
		{"a=" + strings.Repeat("9", 33), nil, 2, api.ErrQuantLong},
		{"a=1,b=" + strings.Repeat("x", 33), nil, 6, api.ErrQuantLong},
		{"a=" + strings.Repeat("9", 32), nil, 2, api.ErrQuantBig},
		{"a=7." + strings.Repeat("0", 30), items("a", 7), 0, api.OK},
		{strings.Repeat("a", 32) + "=1", items(strings.Repeat("a", 32), 1), 0, api.OK},
		{strings.Repeat("a", 33) + "=1", nil, 0, api.ErrQuantName},
		{long, nil, 34, api.ErrQuantForm},
		{nines(16), ninesList(16), 0, api.OK},
		{nines(17), nil, 80, api.ErrQuantMany},
		{nines(16) + ",", nil, 80, api.ErrQuantMany},
		{nines(16) + ",ra=x", nil, 80, api.ErrQuantMany},
		{nines(15) + ",ra=x", nil, 78, api.ErrQuantForm},
		{nines(15) + ",ra=1", nil, 75, api.ErrQuantOrder},
		{strings.Repeat(nines(1)+",", 17), nil, 5, api.ErrQuantOrder},
		{strings.ReplaceAll(nines(16), "=9", "=0") + ",z=1", nil, 80, api.ErrQuantMany},
		{strings.Repeat(",", 1024), nil, 0, api.ErrQuantName},
		{strings.Repeat(",", 1025), nil, 0, api.ErrQuantLong},
		{"a=1," + strings.Repeat("x", 1020), nil, 4, api.ErrQuantName},
		{"a=1," + strings.Repeat("x", 1021), nil, 0, api.ErrQuantLong},
		{"a=1," + strings.Repeat("b", 5000), nil, 0, api.ErrQuantLong},
	} {
		if l, at, err := quant.ParseList(c.text); !sameList(l, c.want) || at != c.at || err != c.err {
			t.Errorf("ParseList(%q) = %v, %d, %d, want %v, %d, %d", c.text, l, at, err, c.want, c.at, c.err)
		}
	}
}

// P2.3: ListText, and the longest there is.
func TestListText(t *testing.T) {
	var longest []api.Item
	for i := range 16 {
		longest = append(longest, api.Item{Name: strings.Repeat("a", 31) + string(rune('a'+i)), N: most - i})
	}
	for _, c := range []struct {
		items []api.Item
		want  string
		err   api.Errno
	}{
		{nil, "", api.OK},
		{items(), "", api.OK},
		{items("cpu", 4, "mem", 2048), "cpu=4,mem=2Ki", api.OK},
		{items("cpu", 1500), "cpu=1.5k", api.OK},
		{items("a", most), "a=9223372036854775807", api.OK},
		{items("a", 1, "b", 2, "c", 3), "a=1,b=2,c=3", api.OK},
		{items("mem", 1, "cpu", 1), "", api.ErrQuantOrder},
		{items("a", 1, "a", 1), "", api.ErrQuantOrder},
		{items("a", 0), "", api.ErrQuantZero},
		{items("a", -1), "", api.ErrQuantZero},
		{items("A", 1), "", api.ErrQuantName},
		{many(17), "", api.ErrQuantMany},
	} {
		if s, err := quant.ListText(c.items); s != c.want || err != c.err {
			t.Errorf("ListText(%v) = %q, %d, want %q, %d", c.items, s, err, c.want, c.err)
		}
	}
	if s, err := quant.ListText(longest); err != api.OK || len(s) > 847 || len(s) < 830 {
		t.Errorf("ListText of the longest list: %d bytes, %d", len(s), err)
	} else if l, at, err := quant.ParseList(s); !sameList(l, longest) || at != 0 || err != api.OK {
		t.Errorf("ParseList(%q) = %v, %d, %d", s, l, at, err)
	}
}

// P2.3: ParseList reads ListText(l) as l, whatever the order of the items and however the amounts are written.
func TestListTextReadsBack(t *testing.T) {
	r := rand.New(rand.NewPCG(3, 2))
	for range 5000 {
		l := anyRight(r, 11)
		for i := range l {
			if r.IntN(2) == 0 {
				l[i].N = int(r.Uint64()>>1)>>r.IntN(60) | 1
			}
		}
		s, err := quant.ListText(l)
		if err != api.OK {
			t.Fatalf("ListText(%v): %d", l, err)
		}
		if got, at, err := quant.ParseList(s); !sameList(got, l) || at != 0 || err != api.OK {
			t.Fatalf("ParseList(%q) = %v, %d, %d, want %v", s, got, at, err, l)
		}
		parts := []string{"nought=0"}
		for _, it := range l {
			parts = append(parts, it.Name+"="+strconv.Itoa(it.N)+[]string{"", ".0", ".000"}[r.IntN(3)])
		}
		r.Shuffle(len(parts), func(i, j int) { parts[i], parts[j] = parts[j], parts[i] })
		s = strings.Join(parts, ",")
		if got, at, err := quant.ParseList(s); !sameList(got, l) || at != 0 || err != api.OK {
			t.Fatalf("ParseList(%q) = %v, %d, %d, want %v", s, got, at, err, l)
		}
	}
}

// P2.3: Get.
func TestGet(t *testing.T) {
	raw := items("b", 1, "a", -5, "a", 2, "", 7, "A", 8, "c", 0, "c", 9)
	for name, want := range map[string]int{"a": -5, "b": 1, "": 7, "A": 8, "c": 0, "d": 0, "ab": 0, "\xff": 0} {
		if got := quant.Get(raw, name); got != want {
			t.Errorf("Get(%v, %q) = %d, want %d", raw, name, got, want)
		}
	}
	if quant.Get(nil, "a") != 0 || quant.Get(items(), "") != 0 {
		t.Error("Get of an empty list isn't 0")
	}
	if got := quant.Get(many(26), "rz"); got != 26 {
		t.Errorf("Get of a list above MaxItems: %d", got)
	}
}
