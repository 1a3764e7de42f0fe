package code_test

import (
	"slices"
	"strings"
	"testing"

	"berth/api"
)

// P20.2: each of the four bytes of the head, turned into each other one, with nothing, little and much behind it; and the head cut off.
func TestHead(t *testing.T) {
	whole := tryEncode(t, api.Program{Code: all(), Depth: 1})
	for place := range 4 {
		wantFault(t, whole[:place], fault{api.ErrCodeCut, place})
		for x := range 256 {
			b := slices.Clone(whole)
			b[place] = byte(x)
			want := fault{api.ErrCodeMagic, place}
			if byte(x) == whole[place] {
				want = fault{api.OK, 0}
				wantFault(t, b, want)
				continue
			}
			for size := place + 1; size <= len(b); size++ {
				wantFault(t, b[:size], want)
			}
			b[3] ^= 0x40 // a second fault in the head, or the same byte
			if b[3] != whole[3] {
				wantFault(t, b, fault{api.ErrCodeMagic, place})
			}
		}
	}
	wantFault(t, []byte("brt\x01"), fault{api.ErrCodeMagic, 0})
	wantFault(t, []byte("\xef\xbb\xbfBRT\x01"), fault{api.ErrCodeMagic, 0})
}

// spot is a place at which a count stands: what stands ahead of it, its range, and what must stand behind it so that the bytes are a program's, for a count that is handed in.
type spot struct {
	name        string
	ahead       string
	least, most int
	behind      func(n int) []byte
}

// ending are the bytes from a pool on (0 Texts, 1 Nums, 2 Sets, 3 NumSets) to the end, all of them empty, and no instruction.
func ending(from int) []byte { return make([]byte, 5-from) }

// spots are all places at which a count may stand.
func spots() []spot {
	fixed := func(from int) func(int) []byte { return func(int) []byte { return ending(from) } }
	elements := func(from int, each func(list []int) []byte) func(int) []byte {
		return func(n int) []byte { return append(each(upTo(0, n)), ending(from)...) }
	}
	body := func(b []byte, n int) []byte { return b[len(countOf(n)):] }
	return []spot{
		{"Depth", "BRT\x01", 0, 128, func(int) []byte { return joined(0, ending(0)) }},
		{"Locals", "BRT\x01\x05", 0, 1024, fixed(0)},
		{"number of Texts", start, 0, 4096, elements(1, func(l []int) []byte { return body(textsOf(names(len(l))), len(l)) })},
		{"number of Nums", start + "\x00", 0, 4096, elements(2, func(l []int) []byte { return body(numsOf(l), len(l)) })},
		{"number of Sets", start + "\x00\x00", 0, 4096, elements(3, func(l []int) []byte { return body(listOf(alone(names(len(l))), textsOf), len(l)) })},
		{"number of NumSets", start + "\x00\x00\x00", 0, 4096, elements(4, func(l []int) []byte { return body(listOf(alone(l), numsOf), len(l)) })},
		{"number of Nums behind two Texts", start + "\x02\x00\x01a", 0, 4094, elements(2, func(l []int) []byte { return body(numsOf(l), len(l)) })},
		{"number of Sets behind two Texts and three Nums", start + "\x02\x00\x01a\x03\x00\x02\x04", 0, 4091, elements(3, func(l []int) []byte { return body(listOf(alone(names(len(l))), textsOf), len(l)) })},
		{"number of NumSets behind a Text, a Num and a set of two", start + "\x01\x00\x01\x05\x01\x02\x00\x01a", 0, 4093, elements(4, func(l []int) []byte { return body(listOf(alone(l), numsOf), len(l)) })},
		{"bytes of a text", start + "\x01", 0, 127, func(n int) []byte { return joined(strings.Repeat("x", n), ending(1)) }},
		{"bytes of a second text", start + "\x02\x00", 1, 127, func(n int) []byte { return joined(strings.Repeat("x", n), ending(1)) }},
		{"texts of a set", start + "\x00\x00\x01", 1, 1000, elements(3, func(l []int) []byte { return body(textsOf(names(len(l))), len(l)) })},
		{"bytes of a set's text", start + "\x00\x00\x01\x01", 0, 127, func(n int) []byte { return joined(strings.Repeat("x", n), ending(3)) }},
		{"numbers of a set", start + "\x00\x00\x00\x01", 1, 1000, elements(4, func(l []int) []byte { return body(numsOf(l), len(l)) })},
		{"a number", start + "\x00\x01", 0, 2 * far, fixed(2)},
		{"a set's number", start + "\x00\x00\x00\x01\x01", 0, 2 * far, fixed(4)},
		{"instructions", start + "\x00\x00\x00\x00", 0, 32768, func(n int) []byte { return slices.Repeat([]byte{36}, n) }},
		{"A", start + "\x00\x00\x00\x00\x01\x02", 0, 65535, func(int) []byte { return nil }},
		{"B", start + "\x00\x00\x00\x00\x01\x16", 0, 65535, func(int) []byte { return nil }},
		{"B behind A", start + "\x00\x00\x00\x00\x01\x0c\x07", 0, 65535, func(int) []byte { return nil }},
		{"C behind A", start + "\x00\x00\x00\x00\x01\x19\x07", 0, 65535, func(int) []byte { return nil }},
		{"C behind B", start + "\x00\x00\x00\x00\x01\x12\x07", 0, 65535, func(int) []byte { return nil }},
		{"A ahead of B and C", start + "\x00\x00\x00\x00\x01\x10", 0, 65535, func(int) []byte { return []byte{3, 4} }},
		{"B between A and C", start + "\x00\x00\x00\x00\x01\x10\x80\x01", 0, 65535, func(int) []byte { return []byte{4} }},
		{"C behind A and B", start + "\x00\x00\x00\x00\x01\x10\xff\x7f\x00", 0, 65535, func(int) []byte { return nil }},
		{"A of a last instruction", start + "\x00\x00\x00\x00\x02\x24\x22", 0, 65535, func(int) []byte { return nil }},
	}
}

// edges are numbers at the edges of a range and of counts of one to nine bytes, and what is not far from them.
func edges(least, most int) []int {
	out := []int{0, 1, 2, least, least + 1, most - 1, most, most + 1, most + 2, 2*most + 1, 1<<63 - 1, 1 << 62, 1 << 32, 1<<32 + 1, 65536, 4097, far, 2 * far, 2*far + 1}
	for groups := 1; groups <= 8; groups++ {
		out = append(out, 1<<(7*groups)-1, 1<<(7*groups), 1<<(7*groups)+1)
	}
	slices.Sort(out)
	return slices.Compact(out)
}

// P20.2, P20.3: each count, in and outside its range: ErrCodeLimit at its first byte, and what is within is read.
func TestRanges(t *testing.T) {
	for _, s := range spots() {
		for _, n := range edges(s.least, s.most) {
			count := countOf(n)
			if n >= s.least && n <= s.most {
				wantFault(t, joined(s.ahead, count, s.behind(n)), fault{api.OK, 0})
				continue
			}
			want := fault{api.ErrCodeLimit, len(s.ahead)}
			if s.name == "bytes of a second text" && n == 0 {
				want.code = api.ErrCodePool
			}
			wantFault(t, joined(s.ahead, count), want)
			wantFault(t, joined(s.ahead, count, s.behind(1)), want)
			wantFault(t, joined(s.ahead, count, 0xff, 0xff), want)
		}
	}
}

// P20.2: each count, cut off at each of its bytes, with bytes behind its last one that are 0, and too long: the length of the bytes, or the count's first byte.
func TestFormsOfCounts(t *testing.T) {
	for _, s := range spots() {
		at := len(s.ahead)
		wantFault(t, []byte(s.ahead), fault{api.ErrCodeCut, at})
		for size := 1; size <= 12; size++ {
			for _, x := range []byte{0x80, 0x81, 0xaa, 0xff} {
				open := joined(s.ahead, slices.Repeat([]byte{x}, size)) // so many bytes, each with its highest bit
				if size < 9 {
					wantFault(t, open, fault{api.ErrCodeCut, len(open)})
					wantFault(t, joined(open, 0), fault{api.ErrCodeNumber, at})
					wantFault(t, joined(open, 0, s.behind(1)), fault{api.ErrCodeNumber, at})
					continue
				}
				wantFault(t, open, fault{api.ErrCodeNumber, at})
				wantFault(t, joined(open, 0), fault{api.ErrCodeNumber, at})
				wantFault(t, joined(open, 1, s.behind(1)), fault{api.ErrCodeNumber, at})
				wantFault(t, joined(open, 0xff, 0xff, 0xff), fault{api.ErrCodeNumber, at})
			}
		}
	}
}

// P20.2: counts of one to nine bytes whose last byte is each that there is, at a number, whose range goes furthest.
func TestLastBytesOfCounts(t *testing.T) {
	ahead := start + "\x00\x01"
	for size := range 9 {
		for last := range 256 {
			b := joined(ahead, slices.Repeat([]byte{0xff}, size), last, ending(2))
			want := fault{api.OK, 0}
			switch {
			case last >= 128, last == 0 && size > 0: // it is too long, or the 0 behind it is its last byte
				want = fault{api.ErrCodeNumber, len(ahead)}
			case size == 8 && last >= 0x1b: // 2·10^18 is 0x1bc16d674ec80000: its highest group of seven bits is 0x1b
				want = fault{api.ErrCodeLimit, len(ahead)}
			}
			wantFault(t, b, want)
		}
	}
	for last := range 128 { // with groups of 0 ahead of it the highest group may be 0x1b
		b := joined(ahead, slices.Repeat([]byte{0x80}, 8), last, ending(2))
		want := fault{api.OK, 0}
		if last == 0 {
			want = fault{api.ErrCodeNumber, len(ahead)}
		} else if last > 0x1b {
			want = fault{api.ErrCodeLimit, len(ahead)}
		}
		wantFault(t, b, want)
	}
}

// P20.2: a text's bytes that are not all there: the length of the bytes.
func TestTextsCutOff(t *testing.T) {
	for _, ahead := range []string{start + "\x01", start + "\x02\x00", start + "\x00\x00\x01\x01", start + "\x00\x00\x01\x02\x00", start + "\x00\x00\x02\x01\x00\x01"} {
		for _, size := range []int{1, 2, 5, 126, 127} {
			for left := range size {
				b := joined(ahead, size, strings.Repeat("\xff", left))
				wantFault(t, b, fault{api.ErrCodeCut, len(b)})
			}
			b := joined(ahead, size, strings.Repeat("\xff", size))
			wantFault(t, b, fault{api.ErrCodeCut, len(b)})
		}
	}
}

// P20.2: an element that isn't greater than the one ahead of it is told as soon as it has been read whole, at the first byte of its count; what stands behind it isn't looked at.
func TestElementsThatDoNotRise(t *testing.T) {
	nums := start + "\x00"
	sets := start + "\x00\x00"
	numSets := start + "\x00\x00\x00"
	long := joined(0x7f, strings.Repeat("k", 127))
	for _, x := range []struct {
		b  []byte
		at int
	}{
		{joined(start, 2, 0, 0), 8}, {joined(start, 2, 1, "a", 1, "a"), 9}, {joined(start, 2, 1, "b", 1, "a"), 9}, {joined(start, 2, 2, "aa", 1, "a"), 10}, {joined(start, 2, 1, "a", 0), 9},
		{joined(start, 3, 0, 1, "a", 1, "a"), 10}, {joined(start, 3, 1, "a", 1, "b", 1, "a"), 11}, {joined(start, 2, long, long), 7 + 128}, {joined(start, 2, 1, "\xff", 1, "\x7f"), 9}, {joined(start, 2, 1, "a", 1, "Z"), 9},
		{joined(nums, 2, 0, 0), 9}, {joined(nums, 2, 6, 6), 9}, {joined(nums, 2, 6, 4), 9}, {joined(nums, 2, 0, 1), 9}, {joined(nums, 2, 1, 3), 9}, {joined(nums, 2, 2, 1), 9}, {joined(nums, 3, 1, 0, 0), 10},
		{joined(nums, 2, signedOf(far), signedOf(far)), 17}, {joined(nums, 2, signedOf(far), signedOf(-far)), 17}, {joined(nums, 2, signedOf(-far), signedOf(-far)), 17}, {joined(nums, 3, signedOf(-far), signedOf(300), signedOf(299)), 19},
		{joined(sets, 1, 2, 0, 0), 11}, {joined(sets, 1, 2, 1, "b", 1, "a"), 12}, {joined(sets, 1, 3, 1, "a", 1, "b", 1, "b"), 14}, {joined(sets, 1, 2, long, long), 10 + 128},
		{joined(sets, 2, 1, 0, 1, 0), 11}, {joined(sets, 2, 1, 1, "b", 1, 1, "a"), 12}, {joined(sets, 2, 1, 1, "b", 2, 1, "a", 1, "c"), 12}, {joined(sets, 2, 2, 1, "a", 1, "b", 1, 1, "a"), 14},
		{joined(sets, 2, 2, 1, "a", 1, "b", 2, 1, "a", 1, "b"), 14}, {joined(sets, 2, 1, 1, "a", 2, 1, "a", 1, "a"), 15}, {joined(sets, 2, 1, 1, "b", 2, 1, "a", 1, "a"), 15}, {joined(sets, 3, 1, 0, 1, 1, "b", 1, 1, "a"), 14},
		{joined(numSets, 1, 2, 0, 0), 12}, {joined(numSets, 1, 2, 4, 2), 12}, {joined(numSets, 1, 2, 0, 1), 12}, {joined(numSets, 1, 3, 1, 0, 1), 13}, {joined(numSets, 1, 2, signedOf(-far), signedOf(-far)), 20},
		{joined(numSets, 2, 1, 0, 1, 0), 12}, {joined(numSets, 2, 1, 4, 1, 2), 12}, {joined(numSets, 2, 2, 2, 4, 1, 2), 13}, {joined(numSets, 2, 1, 4, 2, 2, 6), 12}, {joined(numSets, 2, 1, 4, 2, 2, 2), 14}, {joined(numSets, 2, 2, 2, 4, 2, 2, 4), 13}, {joined(numSets, 3, 1, 1, 1, 0, 1, 1), 14},
	} {
		want := fault{api.ErrCodePool, x.at}
		wantFault(t, x.b, want)
		wantFault(t, joined(x.b, 0), want)
		wantFault(t, joined(x.b, 0xff), want)
		wantFault(t, joined(x.b, slices.Repeat([]byte{0xff}, 20)), want)
		cut := x.b[:len(x.b)-1] // the last element isn't there as a whole
		wantFault(t, cut, fault{api.ErrCodeCut, len(cut)})
	}
}

// P20.2: each byte in the place of an Op.
func TestBytesOfOps(t *testing.T) {
	none := start + "\x00\x00\x00\x00"
	for _, ahead := range [][]byte{joined(none, 1), joined(none, 3, 36), joined(none, 2, 16, 1, 2, 3), joined(none, 0x81, 1, slices.Repeat([]byte{2, 0}, 128))} {
		wantFault(t, ahead, fault{api.ErrCodeCut, len(ahead)})
		for x := range 256 {
			b := joined(ahead, x)
			if x == 0 || x > 36 {
				wantFault(t, b, fault{api.ErrCodeOp, len(ahead)})
				wantFault(t, joined(b, 0, 0, 0), fault{api.ErrCodeOp, len(ahead)})
				continue
			}
			for _, operand := range operands[x] {
				if operand != '.' {
					wantFault(t, b, fault{api.ErrCodeCut, len(b)})
					b = joined(b, 0xff, 0x7f)
				}
			}
			tryDecode(t, b)
			tryDecode(t, joined(b, 36))
		}
	}
}

// P20.2: of several faults in the same bytes the first that is met is told, whichever kinds they are of.
func TestFirstFaultIsTold(t *testing.T) {
	overlong := slices.Repeat([]byte{0x80}, 9)
	for _, x := range []struct {
		b    []byte
		want fault
	}{
		{joined("BRX", 0), fault{api.ErrCodeMagic, 2}},
		{joined("XRT"), fault{api.ErrCodeMagic, 0}},
		{joined("BRT\x02", overlong), fault{api.ErrCodeMagic, 3}},
		{joined("BRT\x01", 0x81, 1, 0x80, 0), fault{api.ErrCodeLimit, 4}},
		{joined("BRT\x01", 0x80, 0, 0x81, 0x10), fault{api.ErrCodeNumber, 4}},
		{joined("BRT\x01", 0, 0x81, 8, overlong), fault{api.ErrCodeLimit, 5}},
		{joined("BRT\x01", overlong, "and so on"), fault{api.ErrCodeNumber, 4}},
		{joined("BRT\x01", overlong[:8]), fault{api.ErrCodeCut, 12}},
		{joined("BRT\x01", 0xff, 0xff, 0xff, 0xff, 0xff, 0xff, 0xff, 0xff), fault{api.ErrCodeCut, 12}},
		{joined(start, 0x81, 0x20), fault{api.ErrCodeLimit, 6}},
		{joined(start, 2, 1, "b", 1, "a", 0x80, 0), fault{api.ErrCodePool, 9}},
		{joined(start, 2, 1, "b", 0x80, 0, 1, "a"), fault{api.ErrCodeNumber, 9}},
		{joined(start, 2, 1, "b", 0x80, 1), fault{api.ErrCodeLimit, 9}},
		{joined(start, 2, 1, "b", 2, "a"), fault{api.ErrCodeCut, 11}},
		{joined(start, 2, 1, "b", 0x80), fault{api.ErrCodeCut, 10}},
		{joined(start, 0, 2, 6, signedOf(far)[:8], 0x7f), fault{api.ErrCodeLimit, 9}},
		{joined(start, 0, 2, 6, 4, overlong), fault{api.ErrCodePool, 9}},
		{joined(start, 0, 0, 1, 0, 0x80, 0), fault{api.ErrCodeLimit, 9}},
		{joined(start, 0, 0, 1, 0xe9, 7, 0x80, 0), fault{api.ErrCodeLimit, 9}},
		{joined(start, 0, 0, 2, 1, 1, "b", 2, 1, "a", 0x80, 0), fault{api.ErrCodeNumber, 15}},
		{joined(start, 0, 0, 2, 1, 1, "b", 2, 1, "a", 1, "a", 37), fault{api.ErrCodePool, 15}},
		{joined(start, 0, 0, 2, 1, 1, "b", 2, 1, "a"), fault{api.ErrCodeCut, 15}},
		{joined(start, 0, 0, 2, 1, 1, "b", 2, 1, "a", 1, "c", 0x80, 0), fault{api.ErrCodePool, 12}},
		{joined(start, 0, 0, 0, 2, 1, 4, 2, 2, overlong), fault{api.ErrCodeNumber, 14}},
		{joined(start, 0, 0, 0, 2, 1, 4, 2, 2), fault{api.ErrCodeCut, 14}},
		{joined(start, 0, 0, 0, 0, 0x81, 0x80, 2, 99), fault{api.ErrCodeLimit, 10}},
		{joined(start, 0, 0, 0, 0, 2, 2, 0xff, 0xff, 4, 37), fault{api.ErrCodeLimit, 12}},
		{joined(start, 0, 0, 0, 0, 2, 2, 0x80, 0, 37), fault{api.ErrCodeNumber, 12}},
		{joined(start, 0, 0, 0, 0, 2, 37, 0x80, 0), fault{api.ErrCodeOp, 11}},
		{joined(start, 0, 0, 0, 0, 3, 16, 1, 0x80, 0, 0), fault{api.ErrCodeNumber, 13}},
		{joined(start, 0, 0, 0, 0, 1, 36, 37), fault{api.ErrCodeRest, 12}},
		{joined(start, 0, 0, 0, 0, 0, "BRT"), fault{api.ErrCodeRest, 11}},
		{joined("BRT\x01", 0, 0, 0, 0, 0, 0, 0, 0), fault{api.ErrCodeRest, 11}},
	} {
		wantFault(t, x.b, x.want)
	}
}
