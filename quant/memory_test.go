package quant_test

import (
	"math/rand/v2"
	"slices"
	"testing"

	"berth/api"
	"berth/quant"
)

var spare = api.Item{Name: "spare", N: 77}

// roomy is the list with spare room behind it that is filled.
func roomy(l []api.Item) []api.Item {
	whole := append(slices.Clone(l), spare, spare, spare)
	return whole[:len(l):len(whole)]
}

func filled(l []api.Item, by api.Item) {
	l = l[:cap(l)]
	for i := range l {
		l[i] = by
	}
}

func untouched(got, want []api.Item) bool {
	return slices.Equal(got, want) && slices.Equal(got[len(got):cap(got)], []api.Item{spare, spare, spare})
}

// listCalls are all calls that are handed lists, with the list that each answers.
func listCalls() map[string]func(a, b, c []api.Item) []api.Item {
	return map[string]func(a, b, c []api.Item) []api.Item{
		"Make":     func(a, _, _ []api.Item) []api.Item { l, _, _ := quant.Make(a); return l },
		"Check":    func(a, _, _ []api.Item) []api.Item { quant.Check(a); return nil },
		"ListText": func(a, _, _ []api.Item) []api.Item { quant.ListText(a); return nil },
		"Get":      func(a, _, _ []api.Item) []api.Item { quant.Get(a, "cpu"); return nil },
		"Add":      func(a, b, _ []api.Item) []api.Item { l, _, _ := quant.Add(a, b); return l },
		"Sub":      func(a, b, _ []api.Item) []api.Item { l, _, _ := quant.Sub(a, b); return l },
		"Short":    func(a, b, c []api.Item) []api.Item { quant.Short(a, b, c); return nil },
	}
}

// P2.6: no call changes what it is handed, spare room included, and what it answers is new memory, spare room too: whoever writes over the answer changes no argument, and whoever writes over an argument changes no answer.
func TestListsAreNeitherChangedNorKept(t *testing.T) {
	r := rand.New(rand.NewPCG(6, 1))
	lists := [][]api.Item{nil, items("a", 1), items("c", 3, "a", 1, "b", 0), items("b", 2, "a", 1), items("a", 1, "b", 2, "cpu", 3), many(16), many(17)}
	for range 300 {
		lists = append(lists, anyRight(r, 5), anyRaw(r))
	}
	for name, call := range listCalls() {
		for i, l := range lists {
			others := [][]api.Item{nil, l, lists[(i+1)%len(lists)], lists[r.IntN(len(lists))]}
			for _, m := range others {
				a, b, c := roomy(l), roomy(m), roomy(m)
				out := call(a, b, c)
				if !untouched(a, l) || !untouched(b, m) || !untouched(c, m) {
					t.Fatalf("%s changed what it was handed: %v %v", name, l, m)
				}
				want := slices.Clone(out)
				filled(out, api.Item{Name: "over", N: 1})
				if !untouched(a, l) || !untouched(b, m) || !untouched(c, m) {
					t.Fatalf("%s(%v, %v) answers memory of an argument", name, l, m)
				}
				copy(out, want)
				for _, x := range [][]api.Item{a, b, c} {
					filled(x, api.Item{Name: "under", N: 2})
				}
				if !slices.Equal(out, want) {
					t.Fatalf("%s(%v, %v) answers memory of an argument", name, l, m)
				}
				if again := call(roomy(l), roomy(m), roomy(m)); !slices.Equal(again, want) {
					t.Fatalf("%s(%v, %v) answers %v, then %v", name, l, m, want, again)
				}
			}
		}
	}
}

// P2.6: no two answers of ParseList share memory.
func TestParseListAnswersNewMemory(t *testing.T) {
	const text = "mem=1,cpu=2,gpu=0"
	one, _, _ := quant.ParseList(text)
	filled(one, api.Item{Name: "over", N: 1})
	if two, _, _ := quant.ParseList(text); !slices.Equal(two, items("cpu", 2, "mem", 1)) {
		t.Errorf("ParseList(%q) = %v", text, two)
	}
}
