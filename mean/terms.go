package mean

import (
	"cmp"
	"slices"

	"berth/api"
	"berth/labels"
	"berth/quant"
)

func text(s string) api.Value { return api.Value{Sort: api.SortText, Known: true, Text: s} }

func number(n int) api.Value { return api.Value{Sort: api.SortNum, Known: true, Num: n} }

func texts(list []string) api.Value {
	return api.Value{Sort: api.SortTexts, Known: true, Texts: rising(list)}
}

// numberIf is a number, or undefined.
func numberIf(n int, known bool) api.Value {
	if !known {
		return api.Value{Sort: api.SortNum}
	}
	return number(n)
}

// rising is the list itself brought into its order, each element once.
func rising[T cmp.Ordered](list []T) []T {
	slices.Sort(list)
	return slices.Compact(list)
}

// fixed is worth the same wherever one looks.
type fixed struct{ value api.Value }

func (f fixed) worth(sight) api.Value { return f.value }

type labelTerm struct{ key string }

func (l labelTerm) worth(s sight) api.Value {
	value, has := labels.Get(s.labels, l.key)
	if !has {
		return api.Value{Sort: api.SortText}
	}
	return text(value)
}

type nameTerm struct{}

func (nameTerm) worth(s sight) api.Value { return text(s.name) }

type keysTerm struct{}

func (keysTerm) worth(s sight) api.Value {
	var list []string
	for _, l := range s.labels {
		list = append(list, l.Key)
	}
	return texts(list)
}

type taintsTerm struct{}

func (taintsTerm) worth(s sight) api.Value {
	var list []string
	for _, t := range s.taints {
		list = append(list, t.Key)
	}
	return texts(list)
}

type capTerm struct{ resource string }

func (c capTerm) worth(s sight) api.Value { return number(quant.Get(s.amounts, c.resource)) }

type intTerm struct{ kid evaluator }

// What is undefined has the empty text, which is no number.
func (i intTerm) worth(s sight) api.Value { return numberIf(labels.Int(i.kid.worth(s).Text)) }

type countTerm struct{ crowd }

func (c countTerm) worth(s sight) api.Value { return numberIf(c.at(s)) }
