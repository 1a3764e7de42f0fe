package quant_test

import (
	"math/big"
	"math/rand/v2"
	"regexp"
	"slices"
	"strings"
	"testing"

	"berth/api"
	"berth/quant"
)

const most = api.MaxAmount

var errnos = []api.Errno{api.OK, api.ErrQuantLong, api.ErrQuantForm, api.ErrQuantWhole, api.ErrQuantBig, api.ErrQuantName, api.ErrQuantOrder, api.ErrQuantZero, api.ErrQuantMany, api.ErrQuantOver, api.ErrQuantUnder}

var unitTexts = []string{"", "k", "M", "G", "T", "P", "E", "Ki", "Mi", "Gi", "Ti", "Pi", "Ei"}

// unitWorth reckons a unit's worth from its place in the table of the chapter.
func unitWorth(u string) *big.Int {
	i := slices.Index(unitTexts, u)
	if i <= 6 {
		return new(big.Int).Exp(big.NewInt(1000), big.NewInt(int64(i)), nil)
	}
	return new(big.Int).Exp(big.NewInt(1024), big.NewInt(int64(i-6)), nil)
}

var (
	amountForm = regexp.MustCompile(`^((?:0|[1-9][0-9]*)(?:\.[0-9]+)?)(k|M|G|T|P|E|Ki|Mi|Gi|Ti|Pi|Ei|)$`)
	beginning  = regexp.MustCompile(`^(|0|[1-9][0-9]*|(0|[1-9][0-9]*)\.[0-9]*|(0|[1-9][0-9]*)(\.[0-9]+)?(k|M|G|T|P|E|K|Ki|Mi|Gi|Ti|Pi|Ei))$`)
	nameForm   = regexp.MustCompile(`^[a-z]([a-z0-9./-]{0,30}[a-z0-9])?$`)
)

// plainParse is Parse by its words alone, in fractions of big numbers.
func plainParse(text string) (int, int, api.Errno) {
	if len(text) > 32 {
		return 0, 0, api.ErrQuantLong
	}
	m := amountForm.FindStringSubmatch(text)
	if m == nil || strings.HasSuffix(text, "\n") {
		p := len(text)
		for !beginning.MatchString(text[:p]) {
			p--
		}
		return 0, p, api.ErrQuantForm
	}
	worth, _ := new(big.Rat).SetString(m[1])
	worth.Mul(worth, new(big.Rat).SetInt(unitWorth(m[2])))
	if !worth.IsInt() {
		return 0, 0, api.ErrQuantWhole
	}
	if worth.Num().Cmp(big.NewInt(most)) > 0 {
		return 0, 0, api.ErrQuantBig
	}
	return int(worth.Num().Int64()), 0, api.OK
}

func items(all ...any) []api.Item {
	out := []api.Item{}
	for i := 0; i < len(all); i += 2 {
		out = append(out, api.Item{Name: all[i].(string), N: all[i+1].(int)})
	}
	return out
}

// many is a right list of n elements.
func many(n int) []api.Item {
	out := []api.Item{}
	for i := range n {
		out = append(out, api.Item{Name: "r" + string(rune('a'+i)), N: i + 1})
	}
	return out
}

// byName is a list as a map, for lists in which no name stands twice.
func byName(l []api.Item) map[string]int {
	out := map[string]int{}
	for _, it := range l {
		out[it.Name] = it.N
	}
	return out
}

// rightOf is the right list of what a map holds.
func rightOf(m map[string]int) []api.Item {
	out := []api.Item{}
	for name, n := range m {
		if n != 0 {
			out = append(out, api.Item{Name: name, N: n})
		}
	}
	slices.SortFunc(out, func(a, b api.Item) int { return strings.Compare(a.Name, b.Name) })
	return out
}

func sameList(a, b []api.Item) bool { return slices.Equal(a, b) }

var anyNames = []string{"a", "b", "c", "cpu", "d.e/f-9", "mem", "z", "a0", "a/b", "a.b", "a-b"}

var anyAmounts = []int{1, 2, 3, 5, most - 2, most - 1, most}

// anyRight makes a right list of up to n elements.
func anyRight(r *rand.Rand, n int) []api.Item {
	m := map[string]int{}
	for range r.IntN(n + 1) {
		m[anyNames[r.IntN(len(anyNames))]] = anyAmounts[r.IntN(len(anyAmounts))]
	}
	return rightOf(m)
}

// anyRaw makes a list that is seldom right.
func anyRaw(r *rand.Rand) []api.Item {
	l := anyRight(r, 6)
	for range r.IntN(3) {
		if len(l) == 0 {
			break
		}
		i := r.IntN(len(l))
		switch r.IntN(5) {
		case 0:
			l[i].Name = []string{"", "A", "9", "a-", "a b"}[r.IntN(5)]
		case 1:
			l[i].N = -r.IntN(3)
		case 2:
			l = append(l, l[i])
		case 3:
			j := r.IntN(len(l))
			l[i], l[j] = l[j], l[i]
		case 4:
			l = append(l, many(13)...)
		}
	}
	return l
}

// plainCheck is Check by its words alone.
func plainCheck(l []api.Item) api.Errno {
	if len(l) > 16 {
		return api.ErrQuantMany
	}
	last := ""
	for _, it := range l {
		switch {
		case !nameForm.MatchString(it.Name):
			return api.ErrQuantName
		case it.N < 1:
			return api.ErrQuantZero
		case strings.Compare(it.Name, last) <= 0:
			return api.ErrQuantOrder
		}
		last = it.Name
	}
	return api.OK
}

func text(t *testing.T, n int) string {
	t.Helper()
	s, err := quant.Text(n)
	if err != api.OK {
		t.Fatalf("Text(%d): %d", n, err)
	}
	return s
}

// The errors' numbers are those of the chapter.
func TestErrorNumbers(t *testing.T) {
	for i, e := range errnos[1:] {
		if int(e) != 20+i {
			t.Errorf("error %d has the number %d", 20+i, e)
		}
	}
}

// written is n in a unit, without digits that are not needed.
func written(n int, u string) string {
	s := new(big.Rat).SetFrac(big.NewInt(int64(n)), unitWorth(u)).FloatString(60)
	return strings.TrimRight(strings.TrimRight(s, "0"), ".") + u
}
