package mean

import (
	"slices"
	"strings"

	"berth/api"
	"berth/compare"
	"berth/taint"
)

func truth(is bool) api.Value { return api.Value{Sort: api.SortBool, Known: true, Bool: is} }

type negation struct{ kid evaluator }

func (n negation) worth(s sight) api.Value { return truth(!n.kid.worth(s).Bool) }

// junction is a conjunction or a disjunction: it is worth what settles it if some kid is, false for a conjunction, true for a disjunction; else the other.
type junction struct {
	kids    []evaluator
	settles bool
}

func (j junction) worth(s sight) api.Value { return truth((j.settler(s) >= 0) == j.settles) }

// settler is which kid is the first that settles the whole; -1, if none does.
func (j junction) settler(s sight) int {
	return slices.IndexFunc(j.kids, func(kid evaluator) bool { return kid.worth(s).Bool == j.settles })
}

type comparison struct {
	first, second evaluator
	by            api.Cmp
}

func (c comparison) worth(s sight) api.Value {
	first, second := c.first.worth(s), c.second.worth(s)
	switch {
	case !first.Known || !second.Known:
		return truth(c.by == api.CmpNe)
	case first.Sort == api.SortText:
		return truth(compare.Stands(strings.Compare(first.Text, second.Text), c.by, 0))
	}
	return truth(compare.Stands(first.Num, c.by, second.Num))
}

// membership is worth wanted where the first is an element of the second.
type membership struct {
	first, second evaluator
	wanted        bool
}

func (m membership) worth(s sight) api.Value {
	one := m.first.worth(s)
	is := one.Known && element(one, m.second.worth(s))
	return truth(is == m.wanted)
}

// element: the set without elements has neither texts nor numbers.
func element(one, set api.Value) bool {
	if one.Sort == api.SortText {
		_, is := slices.BinarySearch(set.Texts, one.Text)
		return is
	}
	_, is := slices.BinarySearch(set.Nums, one.Num)
	return is
}

// tolerance: the tolerations of the pod to be placed against the taints of the node.
type tolerance struct {
	tolerations []api.Toleration
	effect      string
}

func (t tolerance) worth(s sight) api.Value {
	return truth(taint.Tolerated(s.taints, t.tolerations, t.effect))
}

// nearness is worth wanted where a pod of the crowd stands in the same domain.
type nearness struct {
	crowd
	wanted bool
}

func (n nearness) worth(s sight) api.Value {
	pods, _ := n.at(s)
	return truth((pods > 0) == n.wanted)
}
