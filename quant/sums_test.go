package quant_test

import (
	"math"
	"math/big"
	"math/rand/v2"
	"slices"
	"testing"

	"berth/api"
	"berth/quant"
)

type sumCase struct {
	a, b []api.Item
	want []api.Item
	name string
	err  api.Errno
}

type sumCall func(a, b []api.Item) ([]api.Item, string, api.Errno)

func checkSums(t *testing.T, what string, call sumCall, cases []sumCase) {
	t.Helper()
	for _, c := range cases {
		if l, name, err := call(c.a, c.b); !sameList(l, c.want) || name != c.name || err != c.err {
			t.Errorf("%s(%v, %v) = %v, %q, %d, want %v, %q, %d", what, c.a, c.b, l, name, err, c.want, c.name, c.err)
		}
	}
}

// wrongPairs: each error of Check, a's ahead of b's, and ahead of what else is wrong.
func wrongPairs() []sumCase {
	right := items("a", most)
	return []sumCase{
		{items("a", 0), right, nil, "", api.ErrQuantZero},
		{items("a", -1), right, nil, "", api.ErrQuantZero},
		{items("A", 1), right, nil, "", api.ErrQuantName},
		{items("b", 1, "a", 1), right, nil, "", api.ErrQuantOrder},
		{items("a", 1, "a", 1), right, nil, "", api.ErrQuantOrder},
		{many(17), right, nil, "", api.ErrQuantMany},
		{right, items("a", 0), nil, "", api.ErrQuantZero},
		{right, items("A", 1), nil, "", api.ErrQuantName},
		{right, items("b", 1, "a", 1), nil, "", api.ErrQuantOrder},
		{right, many(17), nil, "", api.ErrQuantMany},
		{nil, items("a", 0), nil, "", api.ErrQuantZero},
		{items("a", 0), items("B", 1), nil, "", api.ErrQuantZero},
		{items("B", 1), items("a", 0), nil, "", api.ErrQuantName},
		{many(17), items("a", 0), nil, "", api.ErrQuantMany},
		{items("a", 0), many(17), nil, "", api.ErrQuantZero},
		{items("a", 1), items("a", most, "b", 0), nil, "", api.ErrQuantZero},
	}
}

// P2.4: Add.
func TestAdd(t *testing.T) {
	sixteen := many(16)
	checkSums(t, "Add", quant.Add, append(wrongPairs(), []sumCase{
		{nil, nil, nil, "", api.OK},
		{items(), nil, nil, "", api.OK},
		{items("cpu", 4), items("cpu", 1, "mem", 2), items("cpu", 5, "mem", 2), "", api.OK},
		{items("a", 1), nil, items("a", 1), "", api.OK},
		{nil, items("a", 1), items("a", 1), "", api.OK},
		{items("a", 1, "c", 3), items("b", 2, "d", 4), items("a", 1, "b", 2, "c", 3, "d", 4), "", api.OK},
		{items("c", 3), items("a", 1, "b", 2), items("a", 1, "b", 2, "c", 3), "", api.OK},
		{items("a", most-1), items("a", 1), items("a", most), "", api.OK},
		{items("a", 1), items("a", most-1), items("a", most), "", api.OK},
		{items("a", most), items("a", 1), nil, "a", api.ErrQuantOver},
		{items("a", 1), items("a", most), nil, "a", api.ErrQuantOver},
		{items("a", most), items("a", most), nil, "a", api.ErrQuantOver},
		{items("a", 1<<62), items("a", 1<<62), nil, "a", api.ErrQuantOver},
		{items("a", 1, "b", most, "c", most), items("a", 1, "b", 1, "c", 1), nil, "b", api.ErrQuantOver},
		{items("a", most, "b", most), items("b", 1), nil, "b", api.ErrQuantOver},
		{items("a", most), items("b", most), items("a", most, "b", most), "", api.OK},
		{sixteen, nil, sixteen, "", api.OK},
		{nil, sixteen, sixteen, "", api.OK},
		{sixteen[:8], sixteen[8:], sixteen, "", api.OK},
		{sixteen, items("a", 1), nil, "", api.ErrQuantMany},
		{items("z", 1), sixteen, nil, "", api.ErrQuantMany},
		{items("a", most), append(items("a", 1), sixteen[1:]...), nil, "a", api.ErrQuantOver},
		{items("a", most, "b", 1), append(items("a", 1), sixteen[1:]...), nil, "", api.ErrQuantMany},
	}...))
}

// P2.4: Sub.
func TestSub(t *testing.T) {
	sixteen := many(16)
	checkSums(t, "Sub", quant.Sub, append(wrongPairs(), []sumCase{
		{nil, nil, nil, "", api.OK},
		{items("cpu", 5, "mem", 2), items("mem", 2), items("cpu", 5), "", api.OK},
		{items("cpu", 5), items("cpu", 6, "mem", 1), nil, "cpu", api.ErrQuantUnder},
		{items("cpu", 5), items("cpu", 5, "mem", 1), nil, "mem", api.ErrQuantUnder},
		{items("b", 5), items("a", 1, "b", 6), nil, "a", api.ErrQuantUnder},
		{items("b", 5), items("b", 6, "c", 1), nil, "b", api.ErrQuantUnder},
		{nil, items("a", 1), nil, "a", api.ErrQuantUnder},
		{items("a", 1), nil, items("a", 1), "", api.OK},
		{items("a", most), items("a", most), nil, "", api.OK},
		{items("a", most), items("a", most-1), items("a", 1), "", api.OK},
		{items("a", most-1), items("a", most), nil, "a", api.ErrQuantUnder},
		{items("a", 2, "b", 2, "c", 2), items("b", 1), items("a", 2, "b", 1, "c", 2), "", api.OK},
		{sixteen, sixteen, nil, "", api.OK},
		{sixteen, items("a", 1), nil, "a", api.ErrQuantUnder},
		{sixteen, items("z", 1), nil, "z", api.ErrQuantUnder},
	}...))
}

// P2.4: Short.
func TestShort(t *testing.T) {
	right := items("a", 1)
	for _, c := range []struct {
		need, capacity, used []api.Item
		name                 string
		err                  api.Errno
	}{
		{nil, nil, nil, "", api.OK},
		{items("cpu", 3, "mem", 9), items("cpu", 4, "mem", 8), items("cpu", 2), "cpu", api.ErrQuantUnder},
		{items("cpu", 2, "mem", 9), items("cpu", 4, "mem", 8), items("cpu", 2), "mem", api.ErrQuantUnder},
		{items("cpu", 2, "mem", 8), items("cpu", 4, "mem", 8), items("cpu", 2), "", api.OK},
		{items("cpu", 2), items("cpu", 4), items("cpu", 2, "mem", 3), "", api.OK},
		{items("cpu", 2), items("cpu", 4, "mem", 1), items("cpu", 2, "mem", 3), "", api.OK},
		{items("cpu", 1), items("cpu", 4), items("cpu", 4), "cpu", api.ErrQuantUnder},
		{items("cpu", 1), items("cpu", 4), items("cpu", 5), "cpu", api.ErrQuantUnder},
		{items("cpu", 1), items("cpu", 1), items("cpu", most), "cpu", api.ErrQuantUnder},
		{items("cpu", most), items("cpu", 1), items("cpu", most), "cpu", api.ErrQuantUnder},
		{items("gpu", 1), nil, nil, "gpu", api.ErrQuantUnder},
		{items("gpu", 1), nil, items("gpu", 1), "gpu", api.ErrQuantUnder},
		{nil, nil, items("cpu", 2), "", api.OK},
		{nil, items("cpu", 1), items("cpu", 2), "", api.OK},
		{items("a", most), items("a", most), nil, "", api.OK},
		{items("a", most), items("a", most), items("a", 1), "a", api.ErrQuantUnder},
		{items("a", most-1), items("a", most), items("a", 1), "", api.OK},
		{items("a", 2, "b", 2), right, nil, "a", api.ErrQuantUnder},
		{items("a", 0), items("A", 1), many(17), "", api.ErrQuantZero},
		{right, items("A", 1), many(17), "", api.ErrQuantName},
		{items("a", 2), right, many(17), "", api.ErrQuantMany},
		{items("a", 2), right, items("b", 1, "a", 1), "", api.ErrQuantOrder},
		{items("b", 1, "a", 1), right, right, "", api.ErrQuantOrder},
		{right, items("b", 1, "a", 1), right, "", api.ErrQuantOrder},
		{right, right, items("a", -1), "", api.ErrQuantZero},
		{many(17), items("a", 0), nil, "", api.ErrQuantMany},
	} {
		if name, err := quant.Short(c.need, c.capacity, c.used); name != c.name || err != c.err {
			t.Errorf("Short(%v, %v, %v) = %q, %d, want %q, %d", c.need, c.capacity, c.used, name, err, c.name, c.err)
		}
	}
}

// plainSum is Add and Sub by their words alone: a name's amount in b counts sign times.
func plainSum(a, b []api.Item, sign int64) ([]api.Item, string, api.Errno) {
	for _, l := range [][]api.Item{a, b} {
		if err := plainCheck(l); err != api.OK {
			return nil, "", err
		}
	}
	names := []string{}
	for _, it := range slices.Concat(a, b) {
		names = append(names, it.Name)
	}
	slices.Sort(names)
	names = slices.Compact(names)
	if sign > 0 && len(names) > 16 {
		return nil, "", api.ErrQuantMany
	}
	inA, inB, sums := byName(a), byName(b), map[string]int{}
	for _, name := range names {
		n := new(big.Int).Mul(big.NewInt(sign), big.NewInt(int64(inB[name])))
		n.Add(n, big.NewInt(int64(inA[name])))
		switch {
		case n.Sign() < 0:
			return nil, name, api.ErrQuantUnder
		case n.Cmp(big.NewInt(most)) > 0:
			return nil, name, api.ErrQuantOver
		}
		sums[name] = int(n.Int64())
	}
	return rightOf(sums), "", api.OK
}

// P2.4: lists at random, right or not; what Add answers is taken apart again by Sub.
func TestSumsAny(t *testing.T) {
	r := rand.New(rand.NewPCG(4, 1))
	met := map[api.Errno]int{}
	for range 40000 {
		a, b := anyRight(r, 6), anyRight(r, 6)
		if r.IntN(4) == 0 {
			a = anyRaw(r)
		}
		if r.IntN(4) == 0 {
			b = anyRaw(r)
		}
		if r.IntN(8) == 0 && len(a) > 0 { // so that both fit more often
			b = a[:r.IntN(len(a))]
		}
		if r.IntN(20) == 0 {
			a = many(12)
		}
		for _, c := range []struct {
			what string
			call sumCall
			sign int64
		}{{"Add", quant.Add, 1}, {"Sub", quant.Sub, -1}} {
			want, wantName, wantErr := plainSum(a, b, c.sign)
			met[wantErr]++
			if l, name, err := c.call(a, b); !sameList(l, want) || name != wantName || err != wantErr {
				t.Fatalf("%s(%v, %v) = %v, %q, %d, want %v, %q, %d", c.what, a, b, l, name, err, want, wantName, wantErr)
			}
		}
		if c, _, err := quant.Add(a, b); err == api.OK {
			checkSums(t, "Sub of a sum", quant.Sub, []sumCase{{c, b, a, "", api.OK}, {c, a, b, "", api.OK}})
		}
		checkShortAny(t, anyRight(r, 4), a, b)
	}
	for _, e := range []api.Errno{api.OK, api.ErrQuantName, api.ErrQuantOrder, api.ErrQuantZero, api.ErrQuantMany, api.ErrQuantOver, api.ErrQuantUnder} {
		if met[e] < 200 {
			t.Errorf("the lists met error %d only %d times", e, met[e])
		}
	}
}

func checkShortAny(t *testing.T, need, capacity, used []api.Item) {
	t.Helper()
	wantName, wantErr := "", api.OK
	for _, l := range [][]api.Item{used, capacity, need} {
		if err := plainCheck(l); err != api.OK {
			wantErr = err
		}
	}
	if wantErr == api.OK {
		for _, it := range slices.Backward(need) {
			if it.N > max(0, byName(capacity)[it.Name]-byName(used)[it.Name]) {
				wantName, wantErr = it.Name, api.ErrQuantUnder
			}
		}
	}
	if name, err := quant.Short(need, capacity, used); name != wantName || err != wantErr {
		t.Fatalf("Short(%v, %v, %v) = %q, %d, want %q, %d", need, capacity, used, name, err, wantName, wantErr)
	}
}

// P2.5: Share.
func TestShare(t *testing.T) {
	for _, c := range []struct {
		part, whole, scale, want int
		err                      api.Errno
	}{
		{1, 3, 100, 33, api.OK},
		{2, 3, 100, 66, api.OK},
		{most, most, 100, 100, api.OK},
		{most, most, most, most, api.OK},
		{most, 1, 1, most, api.OK},
		{1, 1, most, most, api.OK},
		{most, 1, 2, 0, api.ErrQuantOver},
		{most, 2, 2, most, api.OK},
		{most, 2, 3, 0, api.ErrQuantOver},
		{most, 1, most, 0, api.ErrQuantOver},
		{1 << 62, 1, 2, 0, api.ErrQuantOver},
		{1 << 62, 1, 4, 0, api.ErrQuantOver},
		{1 << 62, 2, 8, 0, api.ErrQuantOver},
		{1 << 62, 4, 8, 0, api.ErrQuantOver},
		{1 << 62, 1 << 62, most, most, api.OK},
		{most, most - 1, most - 1, most, api.OK},
		{most, most - 1, most, 0, api.ErrQuantOver},
		{0, 1, most, 0, api.OK},
		{most, 1, 0, 0, api.OK},
		{0, most, 0, 0, api.OK},
		{7, 2, 1, 3, api.OK},
		{1, 2, 1, 0, api.OK},
		{5, 0, 1, 0, api.ErrQuantZero},
		{0, 0, 0, 0, api.ErrQuantZero},
		{most, 0, most, 0, api.ErrQuantZero},
		{1, -1, 1, 0, api.ErrQuantZero},
		{1, math.MinInt, 1, 0, api.ErrQuantZero},
		{-1, 1, 1, 0, api.ErrQuantZero},
		{math.MinInt, 1, 1, 0, api.ErrQuantZero},
		{1, 1, -1, 0, api.ErrQuantZero},
		{1, 1, math.MinInt, 0, api.ErrQuantZero},
		{-1, -1, -1, 0, api.ErrQuantZero},
		{-1, 1, -1, 0, api.ErrQuantZero},
		{-1, -1, most, 0, api.ErrQuantZero},
	} {
		if n, err := quant.Share(c.part, c.whole, c.scale); n != c.want || err != c.err {
			t.Errorf("Share(%d, %d, %d) = %d, %d, want %d, %d", c.part, c.whole, c.scale, n, err, c.want, c.err)
		}
	}
	r := rand.New(rand.NewPCG(5, 1))
	for range 50000 {
		part, whole, scale := int(r.Uint64()>>(1+r.IntN(64))), int(r.Uint64()>>(1+r.IntN(63)))+1, int(r.Uint64()>>(1+r.IntN(64)))
		if whole < 1 {
			continue
		}
		q := new(big.Int).Mul(big.NewInt(int64(part)), big.NewInt(int64(scale)))
		q.Quo(q, big.NewInt(int64(whole)))
		want, wantErr := 0, api.ErrQuantOver
		if q.Cmp(big.NewInt(most)) <= 0 {
			want, wantErr = int(q.Int64()), api.OK
		}
		if n, err := quant.Share(part, whole, scale); n != want || err != wantErr {
			t.Fatalf("Share(%d, %d, %d) = %d, %d, want %d, %d", part, whole, scale, n, err, want, wantErr)
		}
	}
}
