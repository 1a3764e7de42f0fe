package labels_test

import (
	"math"
	"math/rand/v2"
	"strconv"
	"strings"
	"testing"

	"berth/labels"
)

var (
	a62 = strings.Repeat("a", 62)
	a63 = strings.Repeat("a", 63)
	a64 = strings.Repeat("a", 64)
)

func checkAll(t *testing.T, what string, is func(string) bool, want bool, all ...string) {
	t.Helper()
	for _, s := range all {
		if is(s) != want {
			t.Errorf("%s(%q) is %v", what, s, !want)
		}
	}
}

// P3.1: IsName.
func TestIsName(t *testing.T) {
	checkAll(t, "IsName", labels.IsName, true,
		"a", "z", "0", "9", "n-1.z9", "a--b", "a.b", "a.b.c", "0.0", "9-z", a62, a63, strings.Repeat("a.", 31)+"a", "a"+strings.Repeat("-", 61)+"a")
	checkAll(t, "IsName", labels.IsName, false,
		"", "A", "-a", "a-", "a..b", ".a", "a.", "a.-b", "a-.b", "a_b", ".", "-", "..", "a.B", "aBc", "a/b", "a b", " a", "a\n", "a\x00", "\u00e9", "a\u00e9a", "a\xffa", "a\u0660a",
		a64, strings.Repeat("a.", 31)+"aa", strings.Repeat("a.", 32), "a"+strings.Repeat("-", 62)+"a", strings.Repeat("a", 5000))
}

// P3.1: IsKey; example 1.
func TestIsKey(t *testing.T) {
	checkAll(t, "IsKey", labels.IsKey, true,
		"zone", "example.org/zone", "a", "Z", "0", "a..b", "a.-_b", "A_B", "a-b", "0/0", "n-1.z9/A..b", a62, a63, "A"+strings.Repeat("_", 61)+"9", "a/"+a63, a63+"/a", a63+"/"+a63)
	checkAll(t, "IsKey", labels.IsKey, false,
		"", "Example.org/zone", "a/b/c", "/b", "a/", "/", "//", "a//b", "-a", "a-", "_a", "a_", ".a", "a.", "a..b/c", "a_b/c", "-a/b", "a-/b", "a/-b", "a/b-", "a/_b", "a/b.", "a b", "a=b", "a,b", "a\x00", "\u00e9", "a\u00e9a", "a\xff/b", "a/b\xff",
		a64, a64+"/a", "a/"+a64, a63+"/"+a64, a64+"/"+a63, a63+"/"+a63+"/", strings.Repeat("a", 127), "/"+a63, a63+"/")
	if n := len(a63 + "/" + a63); n != 127 {
		t.Fatalf("the longest key has %d bytes", n)
	}
}

// P3.1: IsValue.
func TestIsValue(t *testing.T) {
	checkAll(t, "IsValue", labels.IsValue, true,
		"", "a", "Z", "0", "-5", "--a", "a..B", "-.a", "-_a", "a-_.b", "-0", "07", a62, a63, "-"+a62, "-"+strings.Repeat(".", 61)+"9")
	checkAll(t, "IsValue", labels.IsValue, false,
		"-", "--", "a-", "a_", "a.", ".a", "_a", ".", "_", "5 ", " 5", "a b", "a/b", "a=b", "a,b", "+5", "a\n", "a\x00", "\u00e9", "a\u00e9a", "a\xffa",
		a64, "-"+a63, strings.Repeat("a", 5000))
}

// P3.1: each byte in each standing.
func TestTextsByteByByte(t *testing.T) {
	for c := range 256 {
		b := string([]byte{byte(c)})
		for _, s := range []string{b, "a" + b, b + "a", "a" + b + "a", b + b, "a/" + b, "a/a" + b + "a", "a/" + b + "a", "a" + b + "/a", "a" + b + "a/a", b + "/a", "-" + b, "-" + b + "a"} {
			sameTexts(t, s)
		}
	}
}

// P3.1, P3.2: every text of up to five bytes out of those that tell.
func TestAllShortTexts(t *testing.T) {
	texts([]string{"a", "Z", "0", "1", "-", "_", ".", "/", "=", "\xff"}, 5, func(s string) { sameTexts(t, s) })
	texts([]string{"0", "1", "9", "-", "+", "_", "x", "e", ".", " "}, 5, func(s string) { sameInt(t, s) })
}

// P3.1: long texts, in which the parts' lengths tell.
func TestAllLongTexts(t *testing.T) {
	pieces := []string{a63, a62, "a", ".", "-", "/", "A"}
	texts(pieces, 5, func(s string) { sameTexts(t, s) })
}

func sameTexts(t *testing.T, s string) {
	t.Helper()
	if got := labels.IsName(s); got != plainName(s) {
		t.Errorf("IsName(%q) is %v", s, got)
	}
	if got := labels.IsKey(s); got != plainKey(s) {
		t.Errorf("IsKey(%q) is %v", s, got)
	}
	if got := labels.IsValue(s); got != plainValue(s) {
		t.Errorf("IsValue(%q) is %v", s, got)
	}
}

func sameInt(t *testing.T, s string) {
	t.Helper()
	n, ok := labels.Int(s)
	want, is := plainInt(s)
	if n != want || ok != is {
		t.Errorf("Int(%q) = %d, %v", s, n, ok)
	}
	if !ok {
		return
	}
	if back, ok := labels.IntText(n); back != s || !ok {
		t.Errorf("IntText(Int(%q)) = %q, %v", s, back, ok)
	}
	if !labels.IsValue(s) {
		t.Errorf("%q is a canonical integer and no value", s)
	}
}

// P3.2: Int; example 2.
func TestInt(t *testing.T) {
	for s, want := range map[string]int{"0": 0, "1": 1, "7": 7, "-1": -1, "-5": -5, "10": 10, "-10": -10, "99999999999999": 99999999999999, "100000000000000": 100000000000000, "999999999999999": 999999999999999, "-999999999999999": -999999999999999, "123456789012345": 123456789012345} {
		if n, ok := labels.Int(s); n != want || !ok {
			t.Errorf("Int(%q) = %d, %v", s, n, ok)
		}
		sameInt(t, s)
	}
	for _, s := range []string{"", "-", "--", "-0", "00", "07", "007", "-07", "+7", "+0", "1e3", " 1", "1 ", "1\n", "0x1", "1_000", "1.0", "--5", "5-", "-+5", "a", "1a", "\xff", "\u0661", "1000000000000000", "-1000000000000000", "0999999999999999", "9223372036854775807", "-9223372036854775808", "9223372036854775808", "18446744073709551617", strings.Repeat("9", 5000), "-" + strings.Repeat("0", 5000) + "1"} {
		if n, ok := labels.Int(s); n != 0 || ok {
			t.Errorf("Int(%q) = %d, %v", s, n, ok)
		}
		sameInt(t, s)
	}
}

// P3.2: IntText, and the way back.
func TestIntText(t *testing.T) {
	const most = 999999999999999
	all := []int{0, 1, -1, 5, -5, 9, 10, -10, most - 1, most, -most, -most + 1}
	r := rand.New(rand.NewPCG(3, 2))
	for range 2000 {
		all = append(all, r.IntN(2*most+1)-most, r.IntN(2001)-1000)
	}
	for _, n := range all {
		s, ok := labels.IntText(n)
		if s != strconv.Itoa(n) || !ok {
			t.Errorf("IntText(%d) = %q, %v", n, s, ok)
		}
		if back, ok := labels.Int(s); back != n || !ok {
			t.Errorf("Int(IntText(%d)) = %d, %v", n, back, ok)
		}
	}
	for _, n := range []int{most + 1, -most - 1, most + 2, 1000000000000000000, math.MaxInt, math.MinInt, math.MinInt + 1} {
		if s, ok := labels.IntText(n); s != "" || ok {
			t.Errorf("IntText(%d) = %q, %v", n, s, ok)
		}
	}
}
