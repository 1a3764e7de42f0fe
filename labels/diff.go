package labels

import (
	"iter"
	"slices"

	"berth/api"
)

// Diff: how two lists differ, a key at a time, rising.
func Diff(was, now []api.Label) iter.Seq[api.LabelDiff] {
	var first, second []api.Label
	if isList(was) && isList(now) {
		first, second = slices.Clone(was), slices.Clone(now) // what is written into was and now later is not to be seen
	}
	return func(yield func(api.LabelDiff) bool) {
		a, b := first, second
		for len(a) > 0 || len(b) > 0 {
			var d api.LabelDiff
			switch {
			case len(b) == 0 || len(a) > 0 && a[0].Key < b[0].Key:
				d = api.LabelDiff{Key: a[0].Key, Had: true, Old: a[0].Value}
				a = a[1:]
			case len(a) == 0 || b[0].Key < a[0].Key:
				d = api.LabelDiff{Key: b[0].Key, Has: true, New: b[0].Value}
				b = b[1:]
			case a[0] == b[0]:
				a, b = a[1:], b[1:]
				continue
			default:
				d = api.LabelDiff{Key: a[0].Key, Had: true, Old: a[0].Value, Has: true, New: b[0].Value}
				a, b = a[1:], b[1:]
			}
			if !yield(d) {
				return
			}
		}
	}
}

// Patch: the list with what differs.
func Patch(list []api.Label, diffs []api.LabelDiff) ([]api.Label, api.Errno) {
	if _, err := Check(list); err != api.OK {
		return nil, err
	}
	before := "" // below every key
	for _, d := range diffs {
		if err := checkDiff(list, before, d); err != api.OK {
			return nil, err
		}
		before = d.Key
	}
	left := patched(list, diffs)
	if len(left) > api.MaxLabels {
		return nil, api.ErrLabels
	}
	return sorted(left), api.OK
}

func isList(list []api.Label) bool {
	_, err := Check(list)
	return err == api.OK
}

// checkDiff is the first fault of one difference, whose forerunner has the key before.
func checkDiff(list []api.Label, before string, d api.LabelDiff) api.Errno {
	if !IsKey(d.Key) {
		return api.ErrKey
	}
	if err := checkRise(before, d.Key); err != api.OK {
		return err
	}
	if !saysSomething(d) {
		return api.ErrLabelDiff
	}
	if !IsValue(d.Old) || !IsValue(d.New) { // what isn't there is "" by now, which is a value
		return api.ErrValue
	}
	if !fits(list, d) {
		return api.ErrLabelStale
	}
	return api.OK
}

// saysSomething: do Had and Has agree with Old and New, and is it a difference at all?
func saysSomething(d api.LabelDiff) bool {
	if !d.Had && d.Old != "" || !d.Has && d.New != "" {
		return false
	}
	return d.Had != d.Has || d.Had && d.Old != d.New
}

func fits(list []api.Label, d api.LabelDiff) bool {
	if d.Had {
		return slices.Contains(list, api.Label{Key: d.Key, Value: d.Old})
	}
	return !hasKey(list, d.Key)
}

// patched is the list, in no order, that differences without a fault leave.
func patched(list []api.Label, diffs []api.LabelDiff) []api.Label {
	var left []api.Label
	for _, l := range list {
		if !slices.ContainsFunc(diffs, func(d api.LabelDiff) bool { return d.Key == l.Key }) {
			left = append(left, l)
		}
	}
	for _, d := range diffs {
		if d.Has {
			left = append(left, api.Label{Key: d.Key, Value: d.New})
		}
	}
	return left
}
