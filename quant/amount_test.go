package quant_test

import (
	"math"
	"math/rand/v2"
	"strconv"
	"strings"
	"testing"

	"berth/api"
	"berth/quant"
)

type parseCase struct {
	text string
	n    int
	at   int
	err  api.Errno
}

func checkParse(t *testing.T, cases []parseCase) {
	t.Helper()
	for _, c := range cases {
		if n, at, err := quant.Parse(c.text); n != c.n || at != c.at || err != c.err {
			t.Errorf("Parse(%q) = %d, %d, %d, want %d, %d, %d", c.text, n, at, err, c.n, c.at, c.err)
		}
		if n, at, err := plainParse(c.text); n != c.n || at != c.at || err != c.err {
			t.Errorf("the test's own reading of %q: %d, %d, %d, want %d, %d, %d", c.text, n, at, err, c.n, c.at, c.err)
		}
	}
}

// P2.1: the chapter's examples.
func TestParseExamples(t *testing.T) {
	checkParse(t, []parseCase{
		{"0", 0, 0, api.OK},
		{"1.5Gi", 1610612736, 0, api.OK},
		{"1.5Ki", 1536, 0, api.OK},
		{"0.25k", 250, 0, api.OK},
		{"1.50k", 1500, 0, api.OK},
		{"0Ei", 0, 0, api.OK},
		{"0.1Ki", 0, 0, api.ErrQuantWhole},
		{"0.125Ki", 128, 0, api.OK},
		{"8Ei", 0, 0, api.ErrQuantBig},
		{"7.5Ei", 8646911284551352320, 0, api.OK},
		{"9.2E", 9200000000000000000, 0, api.OK},
		{"9223372036854775808", 0, 0, api.ErrQuantBig},
		{"99999999999999999999.5", 0, 0, api.ErrQuantWhole},
		{"1.", 0, 2, api.ErrQuantForm},
		{"1.5.", 0, 3, api.ErrQuantForm},
		{"12m", 0, 2, api.ErrQuantForm},
		{"1kk", 0, 2, api.ErrQuantForm},
		{"-1", 0, 0, api.ErrQuantForm},
		{"01", 0, 1, api.ErrQuantForm},
		{"1Kx", 0, 2, api.ErrQuantForm},
		{".5", 0, 0, api.ErrQuantForm},
		{"", 0, 0, api.ErrQuantForm},
		{"1K", 0, 2, api.ErrQuantForm},
	})
}

// P2.1: each unit, whole, with a fraction, and with one digit too many.
func TestParseUnits(t *testing.T) {
	checkParse(t, []parseCase{
		{"1", 1, 0, api.OK},
		{"1k", 1000, 0, api.OK},
		{"1M", 1000000, 0, api.OK},
		{"1G", 1000000000, 0, api.OK},
		{"1T", 1000000000000, 0, api.OK},
		{"1P", 1000000000000000, 0, api.OK},
		{"1E", 1000000000000000000, 0, api.OK},
		{"1Ki", 1024, 0, api.OK},
		{"1Mi", 1048576, 0, api.OK},
		{"1Gi", 1073741824, 0, api.OK},
		{"1Ti", 1099511627776, 0, api.OK},
		{"1Pi", 1125899906842624, 0, api.OK},
		{"1Ei", 1152921504606846976, 0, api.OK},
		{"1.0", 1, 0, api.OK},
		{"1.001k", 1001, 0, api.OK},
		{"1.0001k", 0, 0, api.ErrQuantWhole},
		{"1.000001M", 1000001, 0, api.OK},
		{"1.0000001M", 0, 0, api.ErrQuantWhole},
		{"1.000000001G", 1000000001, 0, api.OK},
		{"0.000000000001T", 1, 0, api.OK},
		{"0.000000000000001P", 1, 0, api.OK},
		{"0.000000000000000001E", 1, 0, api.OK},
		{"0.0000000000000000001E", 0, 0, api.ErrQuantWhole},
		{"0.0009765625Ki", 1, 0, api.OK},
		{"0.00048828125Ki", 0, 0, api.ErrQuantWhole},
		{"0.00000095367431640625Mi", 1, 0, api.OK},
		{"0.3Mi", 0, 0, api.ErrQuantWhole},
		{"0.5Gi", 1 << 29, 0, api.OK},
		{"0.5Ti", 1 << 39, 0, api.OK},
		{"0.5Pi", 1 << 49, 0, api.OK},
		{"0.5Ei", 1 << 59, 0, api.OK},
	})
	for _, u := range unitTexts {
		for _, n := range []string{"0", "1", "2", "7", "8", "9", "10", "0.5", "0.25", "3.75", "0.1", "9.2", "9.3", "7.9", "7.99", "0.000"} {
			want, _, wantErr := plainParse(n + u)
			checkParse(t, []parseCase{{n + u, want, 0, wantErr}})
		}
	}
}

// P2.1: the greatest amount and one more, the longest text and one more byte, and which error comes first.
func TestParseEdges(t *testing.T) {
	zeros := func(n int) string { return strings.Repeat("0", n) }
	checkParse(t, []parseCase{
		{"9223372036854775807", most, 0, api.OK},
		{"9223372036854775806", most - 1, 0, api.OK},
		{"9223372036854775807.0", most, 0, api.OK},
		{"9223372036854775808.0", 0, 0, api.ErrQuantBig},
		{"9.223372036854775807E", most, 0, api.OK},
		{"9.223372036854775808E", 0, 0, api.ErrQuantBig},
		{"9.2233720368547758070E", most, 0, api.OK},
		{"9.2233720368547758079E", 0, 0, api.ErrQuantWhole},
		{"9223372036854775807.5", 0, 0, api.ErrQuantWhole},
		{"18446744073709551616", 0, 0, api.ErrQuantBig},
		{"18446744073709551617", 0, 0, api.ErrQuantBig},
		{"16Ei", 0, 0, api.ErrQuantBig},
		{"17Ei", 0, 0, api.ErrQuantBig},
		{"10E", 0, 0, api.ErrQuantBig},
		{"9.3E", 0, 0, api.ErrQuantBig},
		{"9007199254740991Ki", 9007199254740991 << 10, 0, api.OK},
		{"9007199254740992Ki", 0, 0, api.ErrQuantBig},
		{strings.Repeat("9", 32), 0, 0, api.ErrQuantBig},
		{strings.Repeat("9", 30) + "Ei", 0, 0, api.ErrQuantBig},
		{strings.Repeat("9", 30) + ".5", 0, 0, api.ErrQuantWhole},
		{"7." + zeros(30), 7, 0, api.OK},
		{"7." + zeros(31), 0, 0, api.ErrQuantLong},
		{"0." + zeros(29) + "1", 0, 0, api.ErrQuantWhole},
		{"0." + zeros(28) + "Ei", 0, 0, api.OK},
		{"1" + zeros(31), 0, 0, api.ErrQuantBig},
		{"1" + zeros(32), 0, 0, api.ErrQuantLong},
		{"1" + zeros(30) + ".", 0, 32, api.ErrQuantForm},
		{"1" + zeros(30) + "K", 0, 32, api.ErrQuantForm},
		{"1" + zeros(30) + "x", 0, 31, api.ErrQuantForm},
		{strings.Repeat("x", 32), 0, 0, api.ErrQuantForm},
		{strings.Repeat("x", 33), 0, 0, api.ErrQuantLong},
		{strings.Repeat("7", 33), 0, 0, api.ErrQuantLong},
		{strings.Repeat("7", 4000), 0, 0, api.ErrQuantLong},
	})
}

// P2.1: the place that goes with ErrQuantForm.
func TestParsePlaces(t *testing.T) {
	checkParse(t, []parseCase{
		{"00", 0, 1, api.ErrQuantForm},
		{"00.5", 0, 1, api.ErrQuantForm},
		{"0x", 0, 1, api.ErrQuantForm},
		{"0.", 0, 2, api.ErrQuantForm},
		{"0.x", 0, 2, api.ErrQuantForm},
		{"0.k", 0, 2, api.ErrQuantForm},
		{"0..5", 0, 2, api.ErrQuantForm},
		{"1,5", 0, 1, api.ErrQuantForm},
		{"1 k", 0, 1, api.ErrQuantForm},
		{" 1", 0, 0, api.ErrQuantForm},
		{"1 ", 0, 1, api.ErrQuantForm},
		{"1\n", 0, 1, api.ErrQuantForm},
		{"+1", 0, 0, api.ErrQuantForm},
		{"1_0", 0, 1, api.ErrQuantForm},
		{"1e3", 0, 1, api.ErrQuantForm},
		{"1E3", 0, 2, api.ErrQuantForm},
		{"1i", 0, 1, api.ErrQuantForm},
		{"1ki", 0, 2, api.ErrQuantForm},
		{"1KI", 0, 2, api.ErrQuantForm},
		{"1KK", 0, 2, api.ErrQuantForm},
		{"1MI", 0, 2, api.ErrQuantForm},
		{"1MM", 0, 2, api.ErrQuantForm},
		{"1Kii", 0, 3, api.ErrQuantForm},
		{"1Eix", 0, 3, api.ErrQuantForm},
		{"1.5Kx", 0, 4, api.ErrQuantForm},
		{"1.5x", 0, 3, api.ErrQuantForm},
		{"12.34.5", 0, 5, api.ErrQuantForm},
		{"k", 0, 0, api.ErrQuantForm},
		{"Ki", 0, 0, api.ErrQuantForm},
		{"1k.", 0, 2, api.ErrQuantForm},
		{"1k5", 0, 2, api.ErrQuantForm},
		{"1\x00", 0, 1, api.ErrQuantForm},
		{"1\xff", 0, 1, api.ErrQuantForm},
		{"\xc2\xb2", 0, 0, api.ErrQuantForm},
		{"1\u0663", 0, 1, api.ErrQuantForm},
		{"/", 0, 0, api.ErrQuantForm},
		{":", 0, 0, api.ErrQuantForm},
		{"1:", 0, 1, api.ErrQuantForm},
		{"1/", 0, 1, api.ErrQuantForm},
	})
	for _, u := range unitTexts[1:] {
		at := 1 + len(u)
		checkParse(t, []parseCase{{"3" + u + "x", 0, at, api.ErrQuantForm}, {"3" + u + "0", 0, at, api.ErrQuantForm}, {"3" + u + "\x00", 0, at, api.ErrQuantForm}})
	}
	for c := range 256 {
		s := string([]byte{byte(c)})
		for _, text := range []string{s, "1" + s, "0" + s, "1." + s, "1.0" + s, "1K" + s, "1M" + s, "1E" + s, "1k" + s, "1Ki" + s} {
			n, at, err := plainParse(text)
			checkParse(t, []parseCase{{text, n, at, err}})
		}
	}
}

// P2.1: texts at random, those that are nearly amounts above all.
func TestParseAny(t *testing.T) {
	r := rand.New(rand.NewPCG(2, 1))
	signs := []string{"0", "1", "2", "5", "9", ".", "k", "M", "G", "T", "P", "E", "K", "i", "x", "0", "5", "25", "125", "0000"}
	met := map[api.Errno]int{}
	for range 60000 {
		var b strings.Builder
		if r.IntN(2) == 0 {
			b.WriteString(strconv.Itoa(int(r.Uint64()>>1) >> r.IntN(63)))
		}
		for range r.IntN(9) {
			b.WriteString(signs[r.IntN(6+r.IntN(len(signs)-5))])
		}
		if r.IntN(2) == 0 {
			b.WriteString(unitTexts[r.IntN(len(unitTexts))])
		}
		n, at, err := plainParse(b.String())
		met[err]++
		if gn, gat, gerr := quant.Parse(b.String()); gn != n || gat != at || gerr != err {
			t.Fatalf("Parse(%q) = %d, %d, %d, want %d, %d, %d", b.String(), gn, gat, gerr, n, at, err)
		}
	}
	for _, e := range errnos[:5] {
		if e != api.ErrQuantLong && met[e] < 200 {
			t.Errorf("the texts met error %d only %d times", e, met[e])
		}
	}
}

// P2.2: the chapter's examples, the edges, and what is no amount.
func TestTextExamples(t *testing.T) {
	for _, c := range []struct {
		n    int
		want string
	}{
		{0, "0"}, {1, "1"}, {9, "9"}, {10, "10"}, {100, "100"}, {512, "512"}, {999, "999"},
		{1000, "1k"}, {1001, "1001"}, {1024, "1Ki"}, {1100, "1.1k"}, {1536, "1536"}, {1500, "1.5k"}, {2048, "2Ki"},
		{9900, "9.9k"}, {9990, "9990"}, {10000, "10k"}, {10240, "10Ki"}, {10100, "10.1k"}, {10110, "10110"},
		{100000, "0.1M"}, {1000000, "1M"}, {1 << 20, "1Mi"}, {1500000, "1.5M"}, {1234000, "1234k"}, {1230000, "1.23M"},
		{1610612736, "1.5Gi"}, {1 << 29, "0.5Gi"}, {1 << 39, "0.5Ti"},
		{1000000000, "1G"}, {1000000000000, "1T"}, {1000000000000000, "1P"}, {1000000000000000000, "1E"},
		{1 << 30, "1Gi"}, {1 << 40, "1Ti"}, {1 << 50, "1Pi"}, {1 << 60, "1Ei"}, {1 << 62, "4Ei"}, {7 << 60, "7Ei"},
		{8646911284551352320, "7.5Ei"}, {9200000000000000000, "9.2E"},
		{most, "9223372036854775807"}, {most - 1, "9223372036854775806"}, {most - 7, "9.2233720368547758E"},
		{most - 1023, "9007199254740991Ki"}, {1 << 55, "32Pi"}, {1<<60 + 1<<59, "1.5Ei"},
	} {
		if s := text(t, c.n); s != c.want {
			t.Errorf("Text(%d) = %q, want %q", c.n, s, c.want)
		}
	}
	for _, n := range []int{-1, -2, -1000, math.MinInt + 1, math.MinInt} {
		if s, err := quant.Text(n); s != "" || err != api.ErrQuantZero {
			t.Errorf("Text(%d) = %q, %d", n, s, err)
		}
	}
}

// numbersOf gives all number parts of amount texts of a length: with and without a fraction.
func numbersOf(length int) []string {
	var whole, out []string
	digits := func(all []string) []string {
		var more []string
		for _, s := range all {
			for c := range 10 {
				more = append(more, s+string(rune('0'+c)))
			}
		}
		return more
	}
	for c := range 10 {
		whole = append(whole, string(rune('0'+c)))
	}
	for n := 1; n <= length; n++ {
		if n == length {
			out = append(out, whole...)
		}
		if n+2 <= length {
			var f []string
			for _, s := range whole {
				f = append(f, s+".")
			}
			for range length - n - 1 {
				f = digits(f)
			}
			out = append(out, f...)
		}
		var longer []string
		for _, s := range digits(whole) {
			if s[0] != '0' {
				longer = append(longer, s)
			}
		}
		whole = longer
	}
	return out
}

// P2.2: of all amount texts of up to five bytes, written out, each number's first one is its text; and every number below 100000 has one of them.
func TestTextIsTheFirst(t *testing.T) {
	first := map[int]string{}
	for length := 1; length <= 5; length++ {
		for _, u := range unitTexts {
			if len(u) >= length {
				continue
			}
			for _, num := range numbersOf(length - len(u)) {
				s := num + u
				n, at, err := plainParse(s)
				if at != 0 || err == api.ErrQuantForm {
					t.Fatalf("%q is no amount text", s)
				}
				if old, ok := first[n]; err == api.OK && (!ok || len(old) == length && s < old) {
					first[n] = s
				}
			}
		}
	}
	for n := range 100000 {
		if _, ok := first[n]; !ok {
			t.Fatalf("no text of %d was written out", n)
		}
	}
	for n, want := range first {
		if s := text(t, n); s != want {
			t.Errorf("Text(%d) = %q, want %q", n, s, want)
		}
	}
}

// P2.2: Parse reads every text as its number again, and no unit writes it shorter, or as short and less.
func TestTextReadsBack(t *testing.T) {
	r := rand.New(rand.NewPCG(2, 2))
	all := []int{0, 1, most, most - 1}
	for range 20000 {
		n := int(r.Uint64() >> (1 + r.IntN(63)))
		switch r.IntN(3) {
		case 1: // many factors of 2
			n = n &^ (1<<r.IntN(62) - 1)
		case 2: // many factors of 10
			w := 1
			for range r.IntN(18) {
				w *= 10
			}
			n -= n % w
		}
		all = append(all, n)
	}
	for _, n := range all {
		s := text(t, n)
		if got, at, err := quant.Parse(s); got != n || at != 0 || err != api.OK {
			t.Fatalf("Text(%d) = %q, which reads as %d, %d, %d", n, s, got, at, err)
		}
		for _, u := range unitTexts {
			if c := written(n, u); len(c) < len(s) || len(c) == len(s) && c < s {
				t.Fatalf("Text(%d) = %q, but %q is ahead of it", n, s, c)
			}
		}
	}
}
