package taint

import (
	"cmp"
	"slices"

	"berth/api"
)

// Make: the list in its order; beside an error the place in the list that it speaks of.
func Make(list []api.Taint) ([]api.Taint, int, api.Errno) {
	if at, err := checkEach(list); err != api.OK {
		return nil, at, err
	}
	for i, t := range list {
		if has(list[:i], t.Key, t.Effect) {
			return nil, i, api.ErrTaintDup
		}
	}
	return sorted(list), 0, api.OK
}

// Check: is it a list as Make answers it?
func Check(list []api.Taint) api.Errno {
	if _, err := checkEach(list); err != api.OK {
		return err
	}
	for i := 1; i < len(list); i++ {
		if order(list[i-1], list[i]) >= 0 {
			return api.ErrTaintDup
		}
	}
	return api.OK
}

// Put: the list with this taint.
func Put(list []api.Taint, t api.Taint) ([]api.Taint, api.Errno) {
	if err := Check(list); err != api.OK {
		return nil, err
	}
	if err := CheckTaint(t); err != api.OK {
		return nil, err
	}
	others, _ := Del(list, t.Key, t.Effect)
	if len(others) == api.MaxTaints {
		return nil, api.ErrTaints
	}
	return sorted(append(others, t)), api.OK
}

// Del: the list without the taint of this key and effect, and whether it had it.
func Del(list []api.Taint, key, effect string) ([]api.Taint, bool) {
	sought := mark(key, effect)
	var others []api.Taint
	for _, t := range list {
		if mark(t.Key, t.Effect) != sought {
			others = append(others, t)
		}
	}
	return others, len(others) < len(list)
}

// checkEach: are they few enough, and each of them valid? Beside an error the place.
func checkEach(list []api.Taint) (int, api.Errno) {
	if len(list) > api.MaxTaints {
		return 0, api.ErrTaints
	}
	for i, t := range list {
		if err := CheckTaint(t); err != api.OK {
			return i, err
		}
	}
	return 0, api.OK
}

func has(list []api.Taint, key, effect string) bool {
	sought := mark(key, effect)
	for _, t := range list {
		if mark(t.Key, t.Effect) == sought {
			return true
		}
	}
	return false
}

// mark is a taint as far as taints of one list are told apart: their values don't count there.
func mark(key, effect string) api.Taint { return api.Taint{Key: key, Effect: effect} }

func order(a, b api.Taint) int {
	return cmp.Or(cmp.Compare(a.Key, b.Key), cmp.Compare(a.Effect, b.Effect))
}

// sorted is a new list of the same taints.
func sorted(list []api.Taint) []api.Taint {
	var out []api.Taint
	out = append(out, list...)
	slices.SortFunc(out, order)
	return out
}
