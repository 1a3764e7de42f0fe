package code_test

import (
	"fmt"
	"math"
	"slices"
	"strings"
	"testing"

	"berth/api"
)

// P20.1, P20.3: each Op, with each operand at its edges: from 0 to 65535 where the Op uses it, 0 alone where it doesn't.
func TestEachOpAndOperand(t *testing.T) {
	for op := api.Op(1); op <= 36; op++ {
		for k := range 3 {
			used := operands[op][k] != '.'
			for _, n := range []int{0, 1, 2, 127, 128, 16383, 16384, 65534, 65535, 65536, -1, -2, 1 << 20, math.MaxInt, math.MinInt, 1 << 32, 1<<32 + 1, -1 << 32} {
				i := api.Instr{Op: op}
				*[]*int{&i.A, &i.B, &i.C}[k] = n
				want := n == 0 || used && n > 0 && n <= 65535
				wantForm(t, fmt.Sprint(i), api.Program{Code: []api.Instr{i}}, want)
				wantForm(t, fmt.Sprint(i), api.Program{Code: []api.Instr{{Op: api.OpAll}, i, {Op: api.OpEnd}}}, want)
			}
		}
	}
}

// P20.1: the operands of each Op together: just those that it uses may be other than 0.
func TestOperandsTogether(t *testing.T) {
	for op := api.Op(1); op <= 36; op++ {
		for _, n := range [][3]int{{1, 2, 3}, {1, 2, 0}, {1, 0, 3}, {0, 2, 3}, {1, 0, 0}, {0, 2, 0}, {0, 0, 3}, {300, 70, 20000}} {
			want := true
			for k := range n {
				want = want && (n[k] == 0 || operands[op][k] != '.')
			}
			i := api.Instr{Op: op, A: n[0], B: n[1], C: n[2]}
			wantForm(t, fmt.Sprint(i), api.Program{Code: []api.Instr{i}}, want)
		}
	}
}

// P20.1: what is no Op has no form, wherever it stands.
func TestOps(t *testing.T) {
	for _, op := range []api.Op{0, 1, 2, 35, 36, 37, 38, -1, -36, 255, 256, 257, 292, 1 << 32, 1<<32 + 1, math.MaxInt, math.MinInt, math.MinInt + 1} {
		want := op >= 1 && op <= 36
		for place := range 3 {
			wantForm(t, fmt.Sprint("Op ", op), api.Program{Code: slices.Insert(all(), place, api.Instr{Op: op})}, want)
		}
	}
}

// P20.1: Depth is from 0 to 128, Locals from 0 to 1024.
func TestDepthAndLocals(t *testing.T) {
	for _, n := range []int{0, 1, 2, 127, 128, 129, 255, 256, 1023, 1024, 1025, 4096, -1, -128, math.MaxInt, math.MinInt, 1 << 32} {
		wantForm(t, fmt.Sprint("Depth ", n), api.Program{Depth: n}, n >= 0 && n <= 128)
		wantForm(t, fmt.Sprint("Locals ", n), api.Program{Locals: n}, n >= 0 && n <= 1024)
		wantForm(t, fmt.Sprint("both ", n), api.Program{Depth: n, Locals: n}, n >= 0 && n <= 128)
	}
}

// edgeTexts are texts of any bytes, rising: each is greater than the one ahead of it.
func edgeTexts() []string {
	out := []string{
		"", "\x00", "\x00\x00", "\x00a", "\n", " ", "\"", "A", "B", "Z", "a", "a\x00", "a\x7f", "a\x80", "aa", "ab", "b", "zone",
		"\x7f", "\x80", "\xc3", "ä", "\xe2\x82", "€", "\xed\xa0\x80", "\xff", "\xff\x00", "\xff\xff", strings.Repeat("y", 126), strings.Repeat("y", 127), strings.Repeat("\xff", 127),
	}
	slices.Sort(out)
	return out
}

// edgeNums are short numbers at the edges of counts of one to nine bytes, rising.
func edgeNums() []int {
	out := []int{0}
	for groups := 1; groups <= 8; groups++ {
		edge := 1 << (7*groups - 1) // the least number whose count has one byte more
		out = append(out, edge-1, edge, edge+1, -edge+1, -edge, -edge-1)
	}
	out = append(out, far, far-1, -far, -far+1, far/10, -far/10)
	slices.Sort(out)
	return slices.Compact(out)
}

// P20.1, P20.3: texts of any bytes, of 0 to 127 bytes; those of 128 and more have no form: in Texts and in Sets.
func TestTexts(t *testing.T) {
	texts := edgeTexts()
	wantForm(t, "all texts", api.Program{Texts: texts, Sets: [][]string{texts}}, true)
	wantForm(t, "each text a set", api.Program{Sets: alone(texts)}, true)
	for _, text := range texts {
		wantForm(t, fmt.Sprintf("%q", text), api.Program{Texts: []string{text}}, true)
		wantForm(t, fmt.Sprintf("{%q}", text), api.Program{Sets: [][]string{{text}}}, true)
	}
	for _, size := range []int{1, 63, 64, 126, 127, 128, 129, 255, 256, 383, 16384} {
		long := strings.Repeat("k", size)
		for _, list := range [][]string{{long}, {"", long}, {long, "z"}, {"a", long, "z"}} {
			wantForm(t, fmt.Sprint("Texts: ", size), api.Program{Texts: list}, size <= 127)
			wantForm(t, fmt.Sprint("a set: ", size), api.Program{Sets: [][]string{list}}, size <= 127)
			wantForm(t, fmt.Sprint("a second set: ", size), api.Program{Sets: [][]string{{""}, list}}, size <= 127)
		}
	}
}

// P20.1, P20.3: numbers from -(10^18) to 10^18; what is beyond has no form: in Nums and in NumSets.
func TestNums(t *testing.T) {
	nums := edgeNums()
	wantForm(t, "all numbers", api.Program{Nums: nums, NumSets: [][]int{nums}}, true)
	wantForm(t, "each number a set", api.Program{NumSets: alone(nums)}, true)
	for _, n := range append(nums, far+1, -far-1, far+2, -far-2, 2*far, -2*far, 1<<62, -1<<62, 1<<62+1, math.MaxInt, math.MinInt, math.MaxInt-1, math.MinInt+1) {
		want := n >= -far && n <= far
		wantForm(t, fmt.Sprint("Nums: ", n), api.Program{Nums: []int{n}}, want)
		wantForm(t, fmt.Sprint("a set: ", n), api.Program{NumSets: [][]int{{n}}}, want)
		pair := []int{min(n, 7), max(n, 8)}
		wantForm(t, fmt.Sprint("Nums: ", pair), api.Program{Nums: pair}, want)
		wantForm(t, fmt.Sprint("a second set: ", pair), api.Program{NumSets: [][]int{{-far}, pair}}, want)
	}
}

// P20.1, P20.3: lists that rise, that stand still and that fall: each of the lists of texts and numbers.
func TestOrder(t *testing.T) {
	for _, x := range []struct {
		texts []string
		nums  []int
		want  bool
	}{
		{[]string{"a", "b", "c"}, []int{1, 2, 3}, true},
		{[]string{"a", "a", "c"}, []int{1, 1, 3}, false},
		{[]string{"a", "c", "c"}, []int{1, 3, 3}, false},
		{[]string{"b", "a", "c"}, []int{2, 1, 3}, false},
		{[]string{"a", "c", "b"}, []int{1, 3, 2}, false},
		{[]string{"c", "b", "a"}, []int{3, 2, 1}, false},
		{[]string{"", "a", "aa"}, []int{-1, 0, 1}, true},
		{[]string{"aa", "a", ""}, []int{-1, 1, 0}, false},
		{[]string{"", "", "a"}, []int{0, 0, 1}, false},
		{[]string{"Z", "a", "\xff"}, []int{-3, -2, -1}, true},
		{[]string{"a", "Z", "\xff"}, []int{-1, -2, -3}, false},
		{[]string{"a\xff", "b", "ba"}, []int{-far, 0, far}, true},
		{[]string{"\xff", "b", "ba"}, []int{far, 0, -far}, false},
		{[]string{"a", "a\x00", "b"}, []int{-64, -1, 64}, true},
		{[]string{"10", "9", "91"}, []int{9, 10, 91}, true},
		{[]string{"9", "10", "91"}, []int{10, 9, 91}, false},
	} {
		wantForm(t, fmt.Sprintf("Texts %q", x.texts), api.Program{Texts: x.texts}, x.want)
		wantForm(t, fmt.Sprintf("a set %q", x.texts), api.Program{Sets: [][]string{x.texts}}, x.want)
		wantForm(t, fmt.Sprintf("Sets %q", alone(x.texts)), api.Program{Sets: alone(x.texts)}, x.want)
		wantForm(t, fmt.Sprintf("a last set %q", x.texts), api.Program{Sets: [][]string{{"", "~"}, {"", "~", "~~"}, x.texts}}, x.want && x.texts[0] > "")
		wantForm(t, fmt.Sprint("Nums ", x.nums), api.Program{Nums: x.nums}, x.want)
		wantForm(t, fmt.Sprint("a set ", x.nums), api.Program{NumSets: [][]int{x.nums}}, x.want)
		wantForm(t, fmt.Sprint("NumSets ", alone(x.nums)), api.Program{NumSets: alone(x.nums)}, x.want)
	}
}

// P20.1, P20.3: sets are held against each other element by element, and a beginning of another one is the lesser.
func TestOrderOfSets(t *testing.T) {
	for _, x := range []struct {
		first, second []int
	}{
		{[]int{1}, []int{1, 2}}, {[]int{1}, []int{2}}, {[]int{1, 2}, []int{2}}, {[]int{1, 2}, []int{1, 3}}, {[]int{1, 2, 9}, []int{1, 3}}, {[]int{1, 2}, []int{1, 2, 3}},
		{[]int{-5}, []int{4}}, {[]int{-5, 4}, []int{4}}, {[]int{1, 2, 3, 4}, []int{1, 2, 3, 5}}, {[]int{1, 2, 3, 4}, []int{2}}, {[]int{1, 200}, []int{2, 3}},
		{[]int{9}, []int{10}}, {[]int{9, 10}, []int{10}}, {[]int{-10}, []int{-9}}, {[]int{1, 9}, []int{1, 10}},
	} {
		letters := func(list []int) []string {
			var out []string
			for _, n := range list {
				out = append(out, string(rune('a'+n+10)))
			}
			return out
		}
		name := fmt.Sprint(x)
		wantForm(t, name, api.Program{NumSets: [][]int{x.first, x.second}}, true)
		wantForm(t, name, api.Program{NumSets: [][]int{x.second, x.first}}, false)
		wantForm(t, name, api.Program{NumSets: [][]int{x.first, x.first}}, false)
		wantForm(t, name, api.Program{NumSets: [][]int{x.second, x.second}}, false)
		wantForm(t, name, api.Program{NumSets: [][]int{{-11}, x.first, x.second, {500}}}, true)
		first, second := letters(x.first), letters(x.second)
		wantForm(t, name, api.Program{Sets: [][]string{first, second}}, true)
		wantForm(t, name, api.Program{Sets: [][]string{second, first}}, false)
		wantForm(t, name, api.Program{Sets: [][]string{first, first}}, false)
	}
}

// P20.1: a set has 1 to 1000 elements.
func TestSizesOfSets(t *testing.T) {
	for _, size := range []int{0, 1, 2, 63, 64, 127, 128, 999, 1000, 1001, 1002, 4096} {
		want := size >= 1 && size <= 1000
		wantForm(t, fmt.Sprint(size, " texts"), api.Program{Sets: [][]string{names(size)}}, want)
		wantForm(t, fmt.Sprint(size, " numbers"), api.Program{NumSets: [][]int{upTo(-3, size)}}, want)
		wantForm(t, fmt.Sprint("a set ahead of ", size, " texts"), api.Program{Sets: [][]string{{"a"}, names(size)}}, want)
		wantForm(t, fmt.Sprint("a set ahead of ", size, " numbers"), api.Program{NumSets: [][]int{{-4}, upTo(-3, size)}}, want)
		wantForm(t, fmt.Sprint("a set behind ", size, " texts"), api.Program{Sets: [][]string{names(size), {"z"}}}, want)
		wantForm(t, fmt.Sprint("a set behind ", size, " numbers"), api.Program{NumSets: [][]int{upTo(-3, size), {9999}}}, want)
	}
	wantForm(t, "nil among the sets", api.Program{Sets: [][]string{nil, {"a"}}}, false)
	wantForm(t, "nil among the sets of numbers", api.Program{NumSets: [][]int{nil, {1}}}, false)
}

// pools is a program with so many elements in each of the four pools.
func pools(texts, nums, sets, numSets int) api.Program {
	return api.Program{Texts: names(texts), Nums: upTo(-texts, nums), Sets: alone(names(sets)), NumSets: alone(upTo(-9, numSets)), Code: all(), Depth: 1}
}

// P20.1, P20.3: the pools have at most 4096 elements together, however they stand in them.
func TestSizesOfPools(t *testing.T) {
	for _, x := range [][4]int{{4096, 0, 0, 0}, {0, 4096, 0, 0}, {0, 0, 4096, 0}, {0, 0, 0, 4096}, {1024, 1024, 1024, 1024}, {1, 2, 3, 4090}, {4000, 90, 5, 1}, {0, 2048, 2048, 0}, {4093, 1, 1, 1}, {1, 4093, 1, 1}, {1, 1, 4093, 1}, {1, 1, 1, 4093}} {
		wantForm(t, fmt.Sprint(x), pools(x[0], x[1], x[2], x[3]), true)
		for k := range x {
			y := x
			y[k]++
			wantForm(t, fmt.Sprint(y), pools(y[0], y[1], y[2], y[3]), false)
			if y[k] -= 2; y[k] >= 0 {
				wantForm(t, fmt.Sprint(y), pools(y[0], y[1], y[2], y[3]), true)
			}
		}
	}
	wantForm(t, "twice the most", pools(4096, 4096, 4096, 4096), false)
}

// P20.1, P20.3: at most 32768 instructions.
func TestSizesOfCode(t *testing.T) {
	for _, size := range []int{0, 1, 127, 128, 16383, 16384, 32767, 32768, 32769, 65536} {
		p := api.Program{Code: slices.Repeat([]api.Instr{{Op: api.OpNumber, A: 1, B: 300, C: 6}}, size)}
		wantForm(t, fmt.Sprint(size, " instructions"), p, size <= 32768)
	}
}

// P20.1: one thing that is wrong is enough, wherever it stands in a program that has a form else.
func TestOneWrongThing(t *testing.T) {
	good := func() api.Program {
		return api.Program{
			Texts: []string{"a", "b"}, Nums: []int{1, 2}, Sets: [][]string{{"a"}, {"a", "b"}}, NumSets: [][]int{{1}, {1, 2}},
			Code: []api.Instr{{Op: api.OpNumber, A: 1, B: 1, C: 1}, {Op: api.OpCompare, A: 1, C: 6}, {Op: api.OpEnd}}, Depth: 3, Locals: 4,
		}
	}
	wantForm(t, "good", good(), true)
	for i, spoil := range []func(p *api.Program){
		func(p *api.Program) { p.Texts[1] = "a" }, func(p *api.Program) { p.Nums[1] = 1 }, func(p *api.Program) { p.Sets[1] = p.Sets[0] }, func(p *api.Program) { p.NumSets[1] = p.NumSets[0] },
		func(p *api.Program) { p.Sets[1][1] = "a" }, func(p *api.Program) { p.NumSets[1][1] = 1 }, func(p *api.Program) { p.Sets[0] = nil }, func(p *api.Program) { p.NumSets[0] = nil },
		func(p *api.Program) { p.Code[0].Op = 0 }, func(p *api.Program) { p.Code[2].Op = 37 }, func(p *api.Program) { p.Code[1].B = 1 }, func(p *api.Program) { p.Code[2].C = -1 },
		func(p *api.Program) { p.Code[0].C = 65536 }, func(p *api.Program) { p.Depth = 129 }, func(p *api.Program) { p.Locals = -1 },
	} {
		p := good()
		spoil(&p)
		wantForm(t, fmt.Sprint("spoilt ", i), p, false)
	}
}
