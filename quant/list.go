package quant

import (
	"cmp"
	"slices"
	"strings"

	"berth/api"
)

// IsName: is it a resource's name?
func IsName(s string) bool {
	if len(s) == 0 || len(s) > api.MaxItemName {
		return false
	}
	for i := range len(s) {
		if !isLetter(s[i]) && !isDigit(s[i]) && s[i] != '-' && s[i] != '.' && s[i] != '/' {
			return false
		}
	}
	last := s[len(s)-1]
	return isLetter(s[0]) && (isLetter(last) || isDigit(last))
}

func isLetter(c byte) bool { return 'a' <= c && c <= 'z' }

// Make: the list in its order, without amounts of 0; beside an error the name that it speaks of.
func Make(items []api.Item) ([]api.Item, string, api.Errno) {
	if len(items) > api.MaxItems {
		return nil, "", api.ErrQuantMany
	}
	for i, it := range items {
		if !IsName(it.Name) {
			return nil, it.Name, api.ErrQuantName
		}
		if it.N < 0 {
			return nil, it.Name, api.ErrQuantZero
		}
		if holds(items[:i], it.Name) {
			return nil, it.Name, api.ErrQuantOrder
		}
	}
	return sorted(items), "", api.OK
}

// Check: is it a list as Make answers it?
func Check(items []api.Item) api.Errno {
	if len(items) > api.MaxItems {
		return api.ErrQuantMany
	}
	for i, it := range items {
		if !IsName(it.Name) {
			return api.ErrQuantName
		}
		if it.N <= 0 {
			return api.ErrQuantZero
		}
		if i > 0 && it.Name <= items[i-1].Name {
			return api.ErrQuantOrder
		}
	}
	return api.OK
}

// ParseList: the list that a text writes, the place of the fault.
func ParseList(text string) ([]api.Item, int, api.Errno) {
	if len(text) > api.MaxListText {
		return nil, 0, api.ErrQuantLong
	}
	if text == "" {
		return nil, 0, api.OK
	}
	var items []api.Item
	at := 0
	for _, part := range strings.Split(text, ",") {
		if len(items) == api.MaxItems {
			return nil, at, api.ErrQuantMany
		}
		it, off, err := parseItem(part)
		if err != api.OK {
			return nil, at + off, err
		}
		if holds(items, it.Name) {
			return nil, at, api.ErrQuantOrder
		}
		items = append(items, it)
		at += len(part) + 1
	}
	return sorted(items), 0, api.OK
}

// parseItem reads a name, = and an amount; its place is one in part.
func parseItem(part string) (api.Item, int, api.Errno) {
	name, amount, found := strings.Cut(part, "=")
	if !found || !IsName(name) {
		return api.Item{}, 0, api.ErrQuantName
	}
	n, at, err := Parse(amount)
	if err != api.OK {
		return api.Item{}, len(name) + 1 + at, err
	}
	return api.Item{Name: name, N: n}, 0, api.OK
}

// ListText: the list's one text.
func ListText(items []api.Item) (string, api.Errno) {
	if err := Check(items); err != api.OK {
		return "", err
	}
	var b strings.Builder
	for i, it := range items {
		if i > 0 {
			b.WriteByte(',')
		}
		s, _ := Text(it.N)
		b.WriteString(it.Name)
		b.WriteByte('=')
		b.WriteString(s)
	}
	return b.String(), api.OK
}

// Get: how much of a resource.
func Get(items []api.Item, name string) int {
	for _, it := range items {
		if it.Name == name {
			return it.N
		}
	}
	return 0
}

// holds asks for the name alone: unlike Get it tells an amount of 0 from none.
func holds(items []api.Item, name string) bool {
	return slices.ContainsFunc(items, func(it api.Item) bool { return it.Name == name })
}

// sorted is a new list of the items whose amount isn't 0.
func sorted(items []api.Item) []api.Item {
	var out []api.Item
	for _, it := range items {
		if it.N != 0 {
			out = append(out, it)
		}
	}
	slices.SortFunc(out, func(a, b api.Item) int { return cmp.Compare(a.Name, b.Name) })
	return out
}
