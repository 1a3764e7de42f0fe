package taint_test

import (
	"math/rand/v2"
	"strings"
	"testing"

	"berth/api"
	"berth/taint"
)

// P4.2: Text: each form, each error, and nothing but the error beside it.
func TestText(t *testing.T) {
	for _, c := range []struct {
		t    api.Taint
		want string
		err  api.Errno
	}{
		{mark("zone", "a", "NoSchedule"), "zone=a:NoSchedule", api.OK},
		{mark("gpu", "", "NoExecute"), "gpu:NoExecute", api.OK},
		{mark("x.io/d", "-5", "PreferNoSchedule"), "x.io/d=-5:PreferNoSchedule", api.OK},
		{mark("", "a", "NoSchedule"), "", api.ErrTaintKey},
		{mark("a", "-", "No"), "", api.ErrTaintValue},
		{mark("a", "b", ""), "", api.ErrEffect},
		{mark("a", "", "No"), "", api.ErrEffect},
		{mark("a=b", "", "NoSchedule"), "", api.ErrTaintKey},
		{mark("a", "b=c", "NoSchedule"), "", api.ErrTaintValue},
	} {
		if got, err := taint.Text(c.t); got != c.want || err != c.err {
			t.Errorf("Text(%q) = %q, %d, want %q, %d", c.t, got, err, c.want, c.err)
		}
	}
}

// P4.2, P4.3: every taint of the chosen parts: its text, and Parse gives it back.
func TestTextGoesBack(t *testing.T) {
	for _, x := range everyTaint() {
		want, wantErr := plainText(x)
		text, err := taint.Text(x)
		if text != want || err != wantErr {
			t.Errorf("Text(%q) = %q, %d, want %q, %d", x, text, err, want, wantErr)
		}
		if err != api.OK {
			continue
		}
		if back, err := taint.Parse(text); back != x || err != api.OK {
			t.Errorf("Parse(%q) = %q, %d, want %q", text, back, err, x)
		}
	}
}

// P4.3: Parse: each form, each error, which one comes first; example 1.
func TestParse(t *testing.T) {
	for _, c := range []struct {
		text string
		want api.Taint
		err  api.Errno
	}{
		{"zone=a:NoSchedule", mark("zone", "a", "NoSchedule"), api.OK},
		{"gpu:NoExecute", mark("gpu", "", "NoExecute"), api.OK},
		{"x.io/d=-5:PreferNoSchedule", mark("x.io/d", "-5", "PreferNoSchedule"), api.OK},
		{"gpu=:NoExecute", api.Taint{}, api.ErrTaintText},
		{"gpu", api.Taint{}, api.ErrTaintText},
		{"", api.Taint{}, api.ErrTaintText},
		{"a=b", api.Taint{}, api.ErrTaintText},
		{"NoSchedule", api.Taint{}, api.ErrTaintText},
		{"-=:x", api.Taint{}, api.ErrTaintText},
		{"=:", api.Taint{}, api.ErrTaintText},
		{"=:NoExecute", api.Taint{}, api.ErrTaintText},
		{":", api.Taint{}, api.ErrTaintKey},
		{":NoExecute", api.Taint{}, api.ErrTaintKey},
		{"=a:NoExecute", api.Taint{}, api.ErrTaintKey},
		{"==:NoExecute", api.Taint{}, api.ErrTaintKey},
		{"a:b:NoSchedule", api.Taint{}, api.ErrTaintKey},
		{"a::NoSchedule", api.Taint{}, api.ErrTaintKey},
		{"::NoSchedule", api.Taint{}, api.ErrTaintKey},
		{"*:NoSchedule", api.Taint{}, api.ErrTaintKey},
		{"a:b=c:NoSchedule", api.Taint{}, api.ErrTaintKey},
		{"-=-:x", api.Taint{}, api.ErrTaintKey},
		{" gpu:NoExecute", api.Taint{}, api.ErrTaintKey},
		{"a=b=c:NoSchedule", api.Taint{}, api.ErrTaintValue},
		{"a==:NoSchedule", api.Taint{}, api.ErrTaintValue},
		{"a==b:NoSchedule", api.Taint{}, api.ErrTaintValue},
		{"a=b:c:NoSchedule", api.Taint{}, api.ErrTaintValue},
		{"a=b::NoSchedule", api.Taint{}, api.ErrTaintValue},
		{"a=::NoSchedule", api.Taint{}, api.ErrTaintValue},
		{"a=-:x", api.Taint{}, api.ErrTaintValue},
		{"gpu:noexecute", api.Taint{}, api.ErrEffect},
		{"gpu:", api.Taint{}, api.ErrEffect},
		{"a=b:", api.Taint{}, api.ErrEffect},
		{"a=b:No=Schedule", api.Taint{}, api.ErrEffect},
		{"a:NoSchedule=", api.Taint{}, api.ErrEffect},
		{"a:=NoSchedule", api.Taint{}, api.ErrEffect},
		{"gpu:NoExecute ", api.Taint{}, api.ErrEffect},
	} {
		if got, err := taint.Parse(c.text); got != c.want || err != c.err {
			t.Errorf("Parse(%q) = %q, %d, want %q, %d", c.text, got, err, c.want, c.err)
		}
	}
}

// wide is a text of n bytes of which the ends are given.
func wide(head string, n int, tail string) string {
	return head + strings.Repeat("a", n-len(head)-len(tail)) + tail
}

// P4.3, P4.5: texts of 256 bytes are read, those of 257 are not.
func TestLongTexts(t *testing.T) {
	for _, c := range []struct {
		head, tail         string
		short, shortMayErr api.Errno
	}{
		{"", ":NoSchedule", api.ErrTaintKey, api.ErrTaintKey},
		{"", ":", api.ErrTaintKey, api.ErrTaintText},
		{"a=", ":NoSchedule", api.ErrTaintValue, api.ErrTaintValue},
		{"a=b:", "", api.ErrEffect, api.ErrEffect},
		{"", "", api.ErrTaintText, api.ErrTaintKey},
		{"a=", "", api.ErrTaintText, api.ErrTaintValue},
	} {
		for n, want := range map[int]api.Errno{255: c.short, 256: c.short, 257: api.ErrTaintText, 258: api.ErrTaintText, 100000: api.ErrTaintText} {
			if got, err := taint.Parse(wide(c.head, n, c.tail)); got != (api.Taint{}) || err != want {
				t.Errorf("Parse of %d bytes, %q .. %q: %q, %d, want %d", n, c.head, c.tail, got, err, want)
			}
		}
		for n, want := range map[int]api.Errno{255: c.shortMayErr, 256: c.shortMayErr, 257: api.ErrTaintText, 258: api.ErrTaintText, 100000: api.ErrTaintText} {
			if got, err := taint.ParseToleration(wide(c.head, n, c.tail)); got != (api.Toleration{}) || err != want {
				t.Errorf("ParseToleration of %d bytes, %q .. %q: %q, %d, want %d", n, c.head, c.tail, got, err, want)
			}
		}
	}
	longest := mark(goodKeys[len(goodKeys)-1], long, "PreferNoSchedule")
	text, _ := taint.Text(longest)
	if got, err := taint.Parse(text); len(text) != 127+1+63+1+16 || got != longest || err != api.OK {
		t.Errorf("the longest taint: %q, %d", got, err)
	}
}

// P4.4: TolerationText: each form, each error, and nothing but the error beside it.
func TestTolerationText(t *testing.T) {
	for _, c := range []struct {
		o    api.Toleration
		want string
		err  api.Errno
	}{
		{may("gpu", "Exists", "", ""), "gpu", api.OK},
		{may("gpu", "Exists", "", "NoExecute"), "gpu:NoExecute", api.OK},
		{may("zone", "Equal", "a", ""), "zone=a", api.OK},
		{may("zone", "Equal", "a", "PreferNoSchedule"), "zone=a:PreferNoSchedule", api.OK},
		{may("zone", "Equal", "", ""), "zone=", api.OK},
		{may("zone", "Equal", "", "NoSchedule"), "zone=:NoSchedule", api.OK},
		{may("", "Exists", "", ""), "*", api.OK},
		{may("", "Exists", "", "PreferNoSchedule"), "*:PreferNoSchedule", api.OK},
		{may("", "", "", ""), "", api.ErrOperator},
		{may("gpu", "exists", "", ""), "", api.ErrOperator},
		{may("", "Equal", "a", ""), "", api.ErrTaintKey},
		{may("*", "Exists", "", ""), "", api.ErrTaintKey},
		{may("gpu", "Exists", "a", ""), "", api.ErrTaintValue},
		{may("gpu", "Equal", "-", ""), "", api.ErrTaintValue},
		{may("gpu", "Equal", "a", "x"), "", api.ErrEffect},
		{may("gpu", "Exists", "", "x"), "", api.ErrEffect},
	} {
		if got, err := taint.TolerationText(c.o); got != c.want || err != c.err {
			t.Errorf("TolerationText(%q) = %q, %d, want %q, %d", c.o, got, err, c.want, c.err)
		}
	}
}

// P4.4, P4.5: every toleration of the chosen parts: its text, and ParseToleration gives it back.
func TestTolerationTextGoesBack(t *testing.T) {
	for _, o := range everyToleration() {
		want, wantErr := plainTolerationText(o)
		text, err := taint.TolerationText(o)
		if text != want || err != wantErr {
			t.Errorf("TolerationText(%q) = %q, %d, want %q, %d", o, text, err, want, wantErr)
		}
		if err != api.OK {
			continue
		}
		if back, err := taint.ParseToleration(text); back != o || err != api.OK {
			t.Errorf("ParseToleration(%q) = %q, %d, want %q", text, back, err, o)
		}
	}
}

// P4.5: ParseToleration: each form, each error, which one comes first; example 2.
func TestParseToleration(t *testing.T) {
	for _, c := range []struct {
		text string
		want api.Toleration
		err  api.Errno
	}{
		{"*", may("", "Exists", "", ""), api.OK},
		{"*:PreferNoSchedule", may("", "Exists", "", "PreferNoSchedule"), api.OK},
		{"gpu", may("gpu", "Exists", "", ""), api.OK},
		{"gpu:NoExecute", may("gpu", "Exists", "", "NoExecute"), api.OK},
		{"zone=", may("zone", "Equal", "", ""), api.OK},
		{"zone=a", may("zone", "Equal", "a", ""), api.OK},
		{"zone=:NoSchedule", may("zone", "Equal", "", "NoSchedule"), api.OK},
		{"zone=a:NoSchedule", may("zone", "Equal", "a", "NoSchedule"), api.OK},
		{"NoSchedule", may("NoSchedule", "Exists", "", ""), api.OK},
		{"", api.Toleration{}, api.ErrTaintText},
		{":", api.Toleration{}, api.ErrTaintText},
		{"zone:", api.Toleration{}, api.ErrTaintText},
		{"*:", api.Toleration{}, api.ErrTaintText},
		{"-=-:", api.Toleration{}, api.ErrTaintText},
		{"zone::", api.Toleration{}, api.ErrTaintText},
		{":NoSchedule", api.Toleration{}, api.ErrTaintText},
		{":x", api.Toleration{}, api.ErrTaintText},
		{"*=a", api.Toleration{}, api.ErrTaintKey},
		{"*=", api.Toleration{}, api.ErrTaintKey},
		{"**", api.Toleration{}, api.ErrTaintKey},
		{"a*", api.Toleration{}, api.ErrTaintKey},
		{" *", api.Toleration{}, api.ErrTaintKey},
		{"=a", api.Toleration{}, api.ErrTaintKey},
		{"=", api.Toleration{}, api.ErrTaintKey},
		{"=:NoSchedule", api.Toleration{}, api.ErrTaintKey},
		{"=-:x", api.Toleration{}, api.ErrTaintKey},
		{"::NoSchedule", api.Toleration{}, api.ErrTaintKey},
		{"a:b:NoSchedule", api.Toleration{}, api.ErrTaintKey},
		{"*::NoSchedule", api.Toleration{}, api.ErrTaintKey},
		{"a=b=c", api.Toleration{}, api.ErrTaintValue},
		{"a==", api.Toleration{}, api.ErrTaintValue},
		{"a=b=c:x", api.Toleration{}, api.ErrTaintValue},
		{"a=b:c:NoSchedule", api.Toleration{}, api.ErrTaintValue},
		{"a=*", api.Toleration{}, api.ErrTaintValue},
		{"a=b:x", api.Toleration{}, api.ErrEffect},
		{"a:noschedule", api.Toleration{}, api.ErrEffect},
		{"*:*", api.Toleration{}, api.ErrEffect},
		{"a:b=NoSchedule", api.Toleration{}, api.ErrEffect},
		{"a:=", api.Toleration{}, api.ErrEffect},
	} {
		if got, err := taint.ParseToleration(c.text); got != c.want || err != c.err {
			t.Errorf("ParseToleration(%q) = %q, %d, want %q, %d", c.text, got, err, c.want, c.err)
		}
	}
}

// parses holds both readers to the models, and what they take to its text.
func parses(t *testing.T, text string) {
	t.Helper()
	want, wantErr := plainParse(text)
	got, err := taint.Parse(text)
	if got != want || err != wantErr {
		t.Errorf("Parse(%q) = %q, %d, want %q, %d", text, got, err, want, wantErr)
	}
	if back, _ := taint.Text(got); err == api.OK && back != text {
		t.Errorf("Text(%q) = %q, want %q", got, back, text)
	}
	wantMay, wantErr := plainParseToleration(text)
	gotMay, err := taint.ParseToleration(text)
	if gotMay != wantMay || err != wantErr {
		t.Errorf("ParseToleration(%q) = %q, %d, want %q, %d", text, gotMay, err, wantMay, wantErr)
	}
	if back, _ := taint.TolerationText(gotMay); err == api.OK && back != text {
		t.Errorf("TolerationText(%q) = %q, want %q", gotMay, back, text)
	}
}

// P4.3, P4.5: every text of a few pieces.
func TestShortTexts(t *testing.T) {
	texts([]string{"a", "*", "=", ":", "-", "/", "NoExecute", "NoSchedule", "\xff"}, 5, func(s string) { parses(t, s) })
}

// P4.3, P4.5: random texts, put together from right and wrong parts.
func TestAnyTexts(t *testing.T) {
	r := rand.New(rand.NewPCG(4, 3))
	joints := []string{"", "=", ":", "=:", ":=", "==", "::", "*", " "}
	for range 50000 {
		x := anyTaint(r, 5)
		pieces := []string{oneOf(r, joints[:2]), x.Key, oneOf(r, joints), x.Value, oneOf(r, joints), x.Effect, oneOf(r, joints[:3])}
		if r.IntN(3) > 0 {
			pieces[0], pieces[6] = "", ""
		}
		parses(t, strings.Join(pieces, ""))
	}
}
