package labels

import (
	"slices"
	"strings"

	"berth/api"
)

// Check: is it a list as Make answers it? The place of the first label that bars it.
func Check(list []api.Label) (int, api.Errno) {
	if len(list) > api.MaxLabels {
		return api.MaxLabels, api.ErrLabels
	}
	before := "" // below every key
	for i, l := range list {
		if err := checkLabel(l); err != api.OK {
			return i, err
		}
		if err := checkRise(before, l.Key); err != api.OK {
			return i, err
		}
		before = l.Key
	}
	return 0, api.OK
}

// Make: the list in its order; beside an error the key that it speaks of.
func Make(list []api.Label) ([]api.Label, string, api.Errno) {
	if len(list) > api.MaxLabels {
		return nil, "", api.ErrLabels
	}
	for i, l := range list {
		if err := checkLabel(l); err != api.OK {
			return nil, l.Key, err
		}
		if hasKey(list[:i], l.Key) {
			return nil, l.Key, api.ErrKeyDup
		}
	}
	return sorted(list), "", api.OK
}

// Parse: the list that a text writes, the place of the fault.
func Parse(text string) ([]api.Label, int, api.Errno) {
	if len(text) > api.MaxLabelsText {
		return nil, 0, api.ErrLabelsLong
	}
	if text == "" {
		return nil, 0, api.OK
	}
	var list []api.Label
	at := 0
	for _, item := range strings.Split(text, ",") {
		if len(list) == api.MaxLabels {
			return nil, at, api.ErrLabels
		}
		l, err := parseItem(item)
		if err != api.OK {
			return nil, at, err
		}
		if hasKey(list, l.Key) {
			return nil, at, api.ErrKeyDup
		}
		list = append(list, l)
		at += len(item) + 1
	}
	return sorted(list), 0, api.OK
}

// Text: the list's one text.
func Text(list []api.Label) (string, api.Errno) {
	if _, err := Check(list); err != api.OK {
		return "", err
	}
	var b strings.Builder
	for i, l := range list {
		if i > 0 {
			b.WriteByte(',')
		}
		b.WriteString(l.Key)
		b.WriteByte('=')
		b.WriteString(l.Value)
	}
	return b.String(), api.OK
}

// Get: the value of a key.
func Get(list []api.Label, key string) (string, bool) {
	for _, l := range list {
		if l.Key == key {
			return l.Value, true
		}
	}
	return "", false
}

// Put: the list with this value of a key.
func Put(list []api.Label, key, value string) ([]api.Label, api.Errno) {
	if _, err := Check(list); err != api.OK {
		return nil, err
	}
	put := api.Label{Key: key, Value: value}
	if err := checkLabel(put); err != api.OK {
		return nil, err
	}
	others, _ := Del(list, key)
	if len(others) == api.MaxLabels {
		return nil, api.ErrLabels
	}
	return sorted(append(others, put)), api.OK
}

// Del: the list without a key, and whether it had it.
func Del(list []api.Label, key string) ([]api.Label, bool) {
	var others []api.Label
	for _, l := range list {
		if l.Key != key {
			others = append(others, l)
		}
	}
	return others, len(others) < len(list)
}

func parseItem(item string) (api.Label, api.Errno) {
	key, value, found := strings.Cut(item, "=")
	if !found {
		return api.Label{}, api.ErrLabelText
	}
	l := api.Label{Key: key, Value: value}
	return l, checkLabel(l)
}

func checkLabel(l api.Label) api.Errno {
	if !IsKey(l.Key) {
		return api.ErrKey
	}
	if !IsValue(l.Value) {
		return api.ErrValue
	}
	return api.OK
}

// checkRise: does a key stand rightly behind the one before it?
func checkRise(before, key string) api.Errno {
	if key == before {
		return api.ErrKeyDup
	}
	if key < before {
		return api.ErrLabelOrder
	}
	return api.OK
}

func hasKey(list []api.Label, key string) bool {
	_, has := Get(list, key)
	return has
}

// sorted is a new list of the same labels.
func sorted(list []api.Label) []api.Label {
	var out []api.Label
	out = append(out, list...)
	slices.SortFunc(out, func(a, b api.Label) int { return strings.Compare(a.Key, b.Key) })
	return out
}
