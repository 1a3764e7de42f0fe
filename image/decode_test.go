package image_test

import (
	"bytes"
	"math"
	"slices"
	"testing"

	"berth/api"
)

// P26.2: what is asked of the bytes ahead of what they say: how many there are, the head, the sum; the first of the faults is told.
func TestFaultsAroundTheState(t *testing.T) {
	good := body(0, 0, 0, 0, 0, 0)
	expectFault(t, "nothing", []byte{}, api.ErrImageCut, 0)
	for k := range 6 {
		expectFault(t, "a beginning of the head", good[:k], api.ErrImageCut, k)
		for _, c := range []byte{0, 1, 0x62, 0xff, good[k] + 1} {
			other := slices.Clone(good)
			if other[k] = c; c == good[k] {
				continue
			}
			for size := k + 1; size <= len(other); size++ {
				expectFault(t, "another head", other[:size], api.ErrImageHead, k)
			}
			expectFault(t, "another head with its sum", sealed(other[:12]), api.ErrImageHead, k)
			other[5] ^= 0x10
			other[len(other)-1]++
			expectFault(t, "two faults of the head and the sum", other, api.ErrImageHead, k)
		}
	}
	for k := 6; k < 14; k++ {
		expectFault(t, "fewer than 14 bytes", good[:k], api.ErrImageCut, k)
	}
	for k := 14; k < len(good); k++ {
		expectFault(t, "a shorter image", good[:k], api.ErrImageSum, k-8)
	}
	for k := 12; k < 20; k++ {
		other := slices.Clone(good)
		other[k] ^= 0x80
		expectFault(t, "another sum", other, api.ErrImageSum, 12)
	}
	expectFault(t, "14 bytes, another sum", append(slices.Clone(begin), 1, 2, 3, 4, 5, 6, 7, 8), api.ErrImageSum, 6)
	expectFault(t, "another sum of what has other faults", append(slices.Concat(begin, []byte{9, 9, 9}), make([]byte, 8)...), api.ErrImageSum, 9)
}

// P26.2: more bytes than MaxImage are told ahead of all else.
func TestFaultOfLongBytes(t *testing.T) {
	great := make([]byte, api.MaxImage+1)
	expectFault(t, "zeros", great, api.ErrImageLong, -1)
	copy(great, begin)
	expectFault(t, "with a head", great, api.ErrImageLong, -1)
	expectFault(t, "with a sum", sealed(great[:api.MaxImage-7]), api.ErrImageLong, -1)
	expectFault(t, "much more", sealed(great), api.ErrImageLong, -1)
	great = great[:api.MaxImage]
	expectFault(t, "MaxImage bytes without a sum", great, api.ErrImageSum, api.MaxImage-8)
	expectFault(t, "MaxImage bytes with one", sealed(great[:api.MaxImage-8]), api.ErrImageTail, 12)
	great[5] = 0
	expectFault(t, "MaxImage bytes with another head", great, api.ErrImageHead, 5)
	for k := range great {
		great[k] = 0xff
	}
	copy(great, begin)
	expectFault(t, "MaxImage bytes of 255", sealed(great[:api.MaxImage-8]), api.ErrImageForm, 6)
}

// P26.2: where a byte is wanted and the sum begins there, that place is told; it is where the bytes of each state may end too early.
func TestFaultsOfCutBytes(t *testing.T) {
	full := checkState(t, everyField(texts(0, "a", "b", "")))
	inner := full[:len(full)-8]
	for size := 6; size < len(inner); size++ {
		if f := checkBytes(t, sealed(inner[:size])); f.code != api.ErrImageCut || f.at > size {
			t.Errorf("%d bytes of %d: %v", size, len(inner), f)
		}
	}
	for _, ends := range [][]byte{{}, {0}, {0, 0}, {0, 0, 0}, {0, 0, 0, 0}, {0, 0, 0, 0, 0}, {1, 0, 0, 0}, {0, 0x80}, {0, 0xff, 0xff, 0xff, 0xff, 0xff, 0xff, 0xff, 0xff, 0xff}, {0x80}, {1, 0x81, 0x80}} {
		expectFault(t, "bytes that end too early", body(ends...), api.ErrImageCut, 6+len(ends))
	}
	expectFault(t, "a bool that isn't there", body(1, 0, 0, 0, 1, 0, 0, 0, 0), api.ErrImageCut, 15)
}

// longCounts has counts with whether they have their one form.
var longCounts = []struct {
	bytes []byte
	good  bool
}{
	{[]byte{0x80, 0}, false},
	{[]byte{0xff, 0}, false},
	{[]byte{0x80, 0x80, 0}, false},
	{[]byte{0xff, 0xff, 0xff, 0}, false},
	{[]byte{0x80, 0x80, 0x80, 0x80, 0x80, 0x80, 0x80, 0x80, 0}, false},
	{[]byte{0x80, 0x80, 0x80, 0x80, 0x80, 0x80, 0x80, 0x80, 0x80, 0}, false},
	{[]byte{0x80, 0x80, 0x80, 0x80, 0x80, 0x80, 0x80, 0x80, 0x80, 1}, true},
	{[]byte{0xff, 0xff, 0xff, 0xff, 0xff, 0xff, 0xff, 0xff, 0xff, 1}, true},
	{[]byte{0x80, 0x80, 0x80, 0x80, 0x80, 0x80, 0x80, 0x80, 0x80, 2}, false},
	{[]byte{0x80, 0x80, 0x80, 0x80, 0x80, 0x80, 0x80, 0x80, 0x80, 3}, false},
	{[]byte{0x80, 0x80, 0x80, 0x80, 0x80, 0x80, 0x80, 0x80, 0x80, 127}, false},
	{[]byte{0x80, 0x80, 0x80, 0x80, 0x80, 0x80, 0x80, 0x80, 0x80, 0x80}, false},
	{[]byte{0x80, 0x80, 0x80, 0x80, 0x80, 0x80, 0x80, 0x80, 0x80, 0x81, 0}, false},
	{[]byte{0x80, 0x80, 0x80, 0x80, 0x80, 0x80, 0x80, 0x80, 0x80, 0x81, 1}, false},
	{[]byte{0xff, 0xff, 0xff, 0xff, 0xff, 0xff, 0xff, 0xff, 0xff, 0xff, 0xff, 0xff, 1}, false},
}

// P26.2: counts that aren't in their one form, as a number, a table's count, a text's count of bytes, a list's count and a text's place: told where they begin.
func TestFaultsOfCounts(t *testing.T) {
	for _, c := range longCounts {
		for at, around := range [][2][]byte{
			6:  {{}, {0, 0, 0, 0, 0}},
			7:  {{0}, {0, 0, 0, 0}},
			8:  {{0, 0}, {0, 0, 0}},
			9:  {{0, 0, 0}, {0, 0}},
			10: {{0, 0, 0, 0}, {0}},
			11: {{1, 1, 'a', 0, 0}, {0, 0}},
			12: {{1, 1, 'a', 0, 0, 1}, {0, 0, 0, 0, 0, 0}},
			13: {{1, 1, 'a', 0, 0, 1, 0}, {0, 0, 0, 0, 0}},
		} {
			if at < 6 {
				continue
			}
			b := body(slices.Concat(around[0], c.bytes, around[1])...)
			f := checkBytes(t, b)
			if form := f == (flaw{api.ErrImageForm, at}); form == c.good && at != 12 {
				t.Errorf("% x: %v", b, f)
			}
		}
	}
	expectFault(t, "a text's count of bytes", body(1, 0x80, 0, 0, 0, 0, 0, 0), api.ErrImageForm, 7)
	expectFault(t, "the second text's", body(2, 1, 'a', 0x81, 0, 'b', 0, 0, 0, 0, 0), api.ErrImageForm, 9)
	expectFault(t, "ten bytes up to the sum, the last above 1", body(0, 0xff, 0xff, 0xff, 0xff, 0xff, 0xff, 0xff, 0xff, 0xff, 0xff), api.ErrImageForm, 7)
	expectFault(t, "nine bytes up to the sum", body(0, 0xff, 0xff, 0xff, 0xff, 0xff, 0xff, 0xff, 0xff, 0xff), api.ErrImageCut, 16)
}

// P26.2: counts of texts, bytes and elements that are above what is left behind them up to the sum: told where they begin, be the least above it or the greatest there is.
func TestFaultsOfWhatIsLeft(t *testing.T) {
	for _, c := range []struct {
		name        string
		ahead, rest []byte
	}{
		{"texts", nil, []byte{0, 0, 0, 0, 0, 0}},
		{"no byte behind it", nil, nil},
		{"a text's bytes", []byte{1}, []byte{'a', 0, 0, 0, 0, 0}},
		{"the second text's bytes", []byte{2, 1, 'a'}, []byte{'b', 'c'}},
		{"nodes", []byte{1, 0, 0, 0}, []byte{0, 0, 0, 0, 0, 0, 0}},
		{"labels", []byte{1, 0, 0, 0, 1, 0}, []byte{0, 0, 0, 0, 0}},
		{"taints", []byte{1, 0, 0, 0, 1, 0, 0}, []byte{0, 0, 0}},
		{"capacities", []byte{1, 0, 0, 0, 1, 0, 0, 0}, []byte{0}},
		{"bound pods", []byte{1, 0, 0, 0, 0}, []byte{0, 0, 0, 0, 0, 0, 0, 0, 0, 0}},
		{"a bound pod's labels", []byte{1, 0, 0, 0, 0, 1, 0}, []byte{0, 0, 0}},
		{"needs", []byte{1, 0, 0, 0, 0, 1, 0, 0}, []byte{0, 0, 0}},
		{"tolerations", []byte{1, 0, 0, 0, 0, 1, 0, 0, 0}, []byte{0, 0, 0}},
		{"apart terms", []byte{1, 0, 0, 0, 0, 1, 0, 0, 0, 0, 0}, []byte{0, 0}},
		{"preferred constraints", []byte{1, 0, 0, 0, 0, 1, 0, 0, 0, 0, 0, 0}, []byte{0, 0}},
		{"pending pods", []byte{0, 0, 0, 0, 0}, []byte{}},
		{"pending pods of some bytes", []byte{1, 0, 0, 0, 0, 0}, []byte{0, 0, 0, 0}},
	} {
		at := 6 + len(c.ahead)
		for _, count := range [][]byte{count(len(c.rest) + 1), count(len(c.rest) + 2), count(127), count(128), count(math.MaxInt32), count(math.MaxInt), longCounts[6].bytes, longCounts[7].bytes} {
			expectFault(t, c.name, body(slices.Concat(c.ahead, count, c.rest)...), api.ErrImageCut, at)
		}
		if f := checkBytes(t, body(slices.Concat(c.ahead, count(len(c.rest)), c.rest)...)); f == (flaw{api.ErrImageCut, at}) {
			t.Errorf("%s: a count of all that is left: %v", c.name, f)
		}
	}
}

// P26.2: the texts of the table rise by their bytes, none twice: told where the count of the one that isn't above stands.
func TestFaultsOfTheTable(t *testing.T) {
	state := []byte{0, 0, 0, 0, 0}
	for _, c := range []struct {
		name  string
		table []byte
		at    int
	}{
		{"twice", []byte{2, 1, 'a', 1, 'a'}, 9},
		{"the empty text twice", []byte{2, 0, 0}, 8},
		{"the empty text behind another one", []byte{2, 1, 'a', 0}, 9},
		{"falling", []byte{2, 1, 'b', 1, 'a'}, 9},
		{"a beginning of the one before", []byte{2, 2, 'a', 'b', 1, 'a'}, 10},
		{"the third", []byte{3, 1, 'a', 1, 'c', 1, 'b'}, 11},
		{"the first is met again", []byte{3, 1, 'a', 1, 'b', 1, 'a'}, 11},
		{"two that fall", []byte{3, 1, 'c', 1, 'b', 1, 'a'}, 9},
		{"bytes above 127 are the greater ones", []byte{2, 1, 0x80, 1, 0x7f}, 9},
		{"no UTF-8", []byte{2, 1, 0xff, 2, 0xc3, 0xa4}, 9},
	} {
		expectFault(t, c.name, body(slices.Concat(c.table, state)...), api.ErrImageForm, c.at)
		expectFault(t, c.name, body(c.table...), api.ErrImageForm, c.at)
		expectFault(t, c.name, body(slices.Concat(c.table, []byte{0x80, 0}, state)...), api.ErrImageForm, c.at)
	}
}

// P26.2: places that the table does not have, in each field that is a text.
func TestFaultsOfPlaces(t *testing.T) {
	good := everyField(texts(0, "a"))
	b := checkState(t, good)
	inner := b[:len(b)-8]
	found := 0
	for at := 11; at < len(inner); at++ {
		for _, c := range [][]byte{{1}, {2}, {0x80, 1}, longCounts[6].bytes, longCounts[7].bytes} {
			f := checkBytes(t, sealed(slices.Concat(inner[:at], c, inner[at+1:])))
			if f == (flaw{api.ErrImageForm, at}) && len(c) == 1 && c[0] == 1 {
				found++
			}
		}
	}
	if found != 32 {
		t.Errorf("%d of 32 fields that are texts", found)
	}
	for _, place := range [][]byte{{0}, {1}, {0x80, 1}, longCounts[7].bytes} {
		expectFault(t, "no table", body(slices.Concat([]byte{0, 0, 0, 1}, place, []byte{0, 0, 0, 0, 0, 0})...), api.ErrImageForm, 10)
	}
}

// P26.2: bools of 2 and more, in both fields that are bools.
func TestFaultsOfBools(t *testing.T) {
	for c := 2; c < 256; c++ {
		expectFault(t, "Cordoned", body(1, 0, 0, 0, 1, 0, 0, 0, 0, byte(c), 0, 0), api.ErrImageForm, 15)
		expectFault(t, "the second Cordoned", body(1, 0, 0, 0, 2, 0, 0, 0, 0, 1, 0, 0, 0, 0, byte(c), 0, 0), api.ErrImageForm, 20)
		expectFault(t, "Asleep", body(1, 0, 0, 0, 0, 0, 1, 0, 0, 0, 0, 0, 0, 0, 0, 0, 0, 0, byte(c)), api.ErrImageForm, 24)
	}
}

// P26.2: bytes between the state and the sum, told ahead of texts that are not used; of these the first.
func TestFaultsOfTheTailAndOfUnusedTexts(t *testing.T) {
	for _, tail := range [][]byte{{0}, {1}, {0xff}, {0, 0, 0, 0, 0, 0, 0, 0}, bytes.Repeat([]byte{0x80}, 30)} {
		expectFault(t, "a tail", body(slices.Concat([]byte{0, 0, 0, 0, 0, 0}, tail)...), api.ErrImageTail, 12)
		expectFault(t, "a tail and an unused text", body(slices.Concat([]byte{1, 0, 0, 0, 0, 0, 0}, tail)...), api.ErrImageTail, 13)
	}
	expectFault(t, "an image in an image", sealed(body(0, 0, 0, 0, 0, 0)), api.ErrImageTail, 12)
	expectFault(t, "the empty text is unused", body(1, 0, 0, 0, 0, 0, 0), api.ErrImageForm, 7)
	for unused := range 8 { // a node has the name a, b or c, if that is not among the unused ones
		b := []byte{3, 1, 'a', 1, 'b', 1, 'c', 0, 0, 0}
		want := fine
		for k := range 3 {
			if unused>>k&1 == 0 {
				b = append(b, byte(k), 0, 0, 0, 0)
				b[9]++
			} else if want == fine {
				want = flaw{api.ErrImageForm, 7 + 2*k}
			}
		}
		if f := checkBytes(t, body(append(b, 0, 0)...)); f != want {
			t.Errorf("unused %03b: %v, want %v", unused, f, want)
		}
	}
}

// P26.2: of several faults within the bytes the first counts, whatever its number is.
func TestTheFirstFaultCounts(t *testing.T) {
	expectFault(t, "a bool ahead of a place", body(1, 0, 0, 0, 2, 0, 0, 0, 0, 2, 1, 0, 0, 0, 0, 0, 0), api.ErrImageForm, 15)
	expectFault(t, "a place ahead of a bool", body(1, 0, 0, 0, 1, 1, 0, 0, 0, 2, 0, 0), api.ErrImageForm, 11)
	expectFault(t, "a count above the rest ahead of a count without form", body(0, 0, 0, 9, 0x80, 0), api.ErrImageCut, 9)
	expectFault(t, "a count without form ahead of one above the rest", body(0, 0x80, 0, 9, 9, 9), api.ErrImageForm, 7)
	expectFault(t, "a count without form that is above the rest", body(0, 0, 0, 0xff, 0xff, 0), api.ErrImageForm, 9)
	expectFault(t, "texts that don't rise ahead of a cut", body(3, 0, 0, 9), api.ErrImageForm, 8)
	expectFault(t, "a cut ahead of an unused text", body(1, 1, 'a', 0, 0, 0, 0), api.ErrImageCut, 13)
	expectFault(t, "a place that is cut", body(1, 1, 'a', 0, 0, 1, 0x80), api.ErrImageCut, 13)
}
