package quant

import (
	"math/bits"

	"berth/api"
)

// pair is a name with its amounts in two lists.
type pair struct {
	name string
	a, b int
}

// Add: both together; beside an error the name that it speaks of.
func Add(a, b []api.Item) ([]api.Item, string, api.Errno) {
	if err := checkAll(a, b); err != api.OK {
		return nil, "", err
	}
	both := paired(a, b)
	if len(both) > api.MaxItems {
		return nil, "", api.ErrQuantMany
	}
	var out []api.Item
	for _, p := range both {
		if p.a > api.MaxAmount-p.b {
			return nil, p.name, api.ErrQuantOver
		}
		out = append(out, api.Item{Name: p.name, N: p.a + p.b})
	}
	return out, "", api.OK
}

// Sub: a without b; beside an error the name that it speaks of.
func Sub(a, b []api.Item) ([]api.Item, string, api.Errno) {
	if err := checkAll(a, b); err != api.OK {
		return nil, "", err
	}
	var out []api.Item
	for _, p := range paired(a, b) {
		if p.a < p.b {
			return nil, p.name, api.ErrQuantUnder
		}
		if p.a > p.b {
			out = append(out, api.Item{Name: p.name, N: p.a - p.b})
		}
	}
	return out, "", api.OK
}

// Short: the first resource of which too little is left, with ErrQuantUnder.
func Short(need, capacity, used []api.Item) (string, api.Errno) {
	if err := checkAll(need, capacity, used); err != api.OK {
		return "", err
	}
	for _, it := range need {
		room := max(0, Get(capacity, it.Name)-Get(used, it.Name))
		if it.N > room {
			return it.Name, api.ErrQuantUnder
		}
	}
	return "", api.OK
}

// Share: part times scale by whole, rounded down, exact.
func Share(part, whole, scale int) (int, api.Errno) {
	if part < 0 || scale < 0 || whole < 1 {
		return 0, api.ErrQuantZero
	}
	high, low := bits.Mul64(uint64(part), uint64(scale))
	if high >= uint64(whole) { // the quotient has more than 64 bits, and Div64 would panic
		return 0, api.ErrQuantOver
	}
	n, _ := bits.Div64(high, low, uint64(whole))
	if n > api.MaxAmount {
		return 0, api.ErrQuantOver
	}
	return int(n), api.OK
}

func checkAll(lists ...[]api.Item) api.Errno {
	for _, l := range lists {
		if err := Check(l); err != api.OK {
			return err
		}
	}
	return api.OK
}

// paired walks two right lists side by side, so that each name of either comes once, rising.
func paired(a, b []api.Item) []pair {
	var out []pair
	for len(a) > 0 || len(b) > 0 {
		var p pair
		switch {
		case len(b) == 0 || len(a) > 0 && a[0].Name < b[0].Name:
			p = pair{a[0].Name, a[0].N, 0}
			a = a[1:]
		case len(a) == 0 || b[0].Name < a[0].Name:
			p = pair{b[0].Name, 0, b[0].N}
			b = b[1:]
		default:
			p = pair{a[0].Name, a[0].N, b[0].N}
			a, b = a[1:], b[1:]
		}
		out = append(out, p)
	}
	return out
}
