package mean

import (
	"slices"

	"berth/api"
	"berth/cluster"
)

// evaluator is a part made ready: for one pod to be placed, and for the pods that were bound then.
type evaluator interface {
	worth(s sight) api.Value
}

// meaning is a tree that layer 14 takes, with an evaluator for each part.
type meaning struct {
	parts      []api.Part
	pod        api.Pod
	bound      []guest
	evaluators []evaluator
}

// meaningOf makes a tree ready. Kids stand ahead of their part: so theirs are made when the part's is.
func meaningOf(t api.Tree, types []api.Type, pod api.Pod, c *cluster.Cluster) meaning {
	m := meaning{parts: t.Parts, pod: pod}
	if slices.ContainsFunc(t.Parts, selects) {
		m.bound = guests(c)
	}
	for at, part := range t.Parts {
		m.evaluators = append(m.evaluators, m.made(part, types[at].Sort))
	}
	return m
}

// selects: whether the kid of a part is a selector.
func selects(part api.Part) bool {
	return part.Kind == api.KNear || part.Kind == api.KApart || part.Kind == api.KCount
}

// made is the evaluator of a part whose kids have theirs.
func (m meaning) made(part api.Part, sort api.Sort) evaluator {
	kids := m.kids(part)
	switch part.Kind {
	case api.KTrue, api.KFalse:
		return fixed{truth(part.Kind == api.KTrue)}
	case api.KNot:
		return negation{kids[0]}
	case api.KAnd:
		return junction{kids, false}
	case api.KOr:
		return junction{kids, true}
	case api.KCmp:
		return comparison{kids[0], kids[1], api.Cmp(part.Num)}
	case api.KIn:
		return membership{kids[0], kids[1], part.Num == 0}
	case api.KNear:
		return nearness{m.crowdOf(part), true}
	case api.KApart:
		return nearness{m.crowdOf(part), false}
	case api.KTolerated:
		return tolerance{m.pod.Tolerations, part.Text}
	case api.KInt:
		return intTerm{kids[0]}
	case api.KCount:
		return countTerm{m.crowdOf(part)}
	case api.KSet:
		return fixed{m.set(part.Kids, sort)}
	}
	return m.leaf(part)
}

// leaf is the evaluator of a term without kids.
func (m meaning) leaf(part api.Part) evaluator {
	switch part.Kind {
	case api.KText:
		return fixed{text(part.Text)}
	case api.KNum:
		return fixed{number(part.Num)}
	case api.KLabel:
		return m.spokenOf(part, labelTerm{part.Text})
	case api.KName:
		return m.spokenOf(part, nameTerm{})
	case api.KKeys:
		return m.spokenOf(part, keysTerm{})
	case api.KTaints:
		return taintsTerm{}
	}
	return capTerm{part.Text}
}

// kids are the evaluators of a part's kids.
func (m meaning) kids(part api.Part) []evaluator {
	var kids []evaluator
	for _, kid := range part.Kids {
		kids = append(kids, m.evaluators[kid])
	}
	return kids
}

// spokenOf: what a part says of the pod to be placed is the same wherever one looks; else it is said of the sight.
func (m meaning) spokenOf(part api.Part, e evaluator) evaluator {
	if api.Side(part.Num) == api.OfPod {
		return fixed{e.worth(sightOfPod(m.pod))}
	}
	return e
}

// set is what a set is worth.
func (m meaning) set(kids []int, sort api.Sort) api.Value {
	v := api.Value{Sort: sort, Known: true}
	for _, kid := range kids {
		switch v.Sort {
		case api.SortTexts:
			v.Texts = append(v.Texts, m.parts[kid].Text)
		case api.SortNums:
			v.Nums = append(v.Nums, m.parts[kid].Num)
		}
	}
	v.Texts, v.Nums = rising(v.Texts), rising(v.Nums)
	return v
}

func (m meaning) whole() int { return len(m.parts) - 1 }

// holds: what the whole is worth.
func (m meaning) holds(s sight) bool { return m.evaluators[m.whole()].worth(s).Bool }

// tells: whether it can be told at a node what the part at this place is worth: there is such a part, and it doesn't stand in a selector.
func (m meaning) tells(at int) bool {
	if at < 0 || at > m.whole() {
		return false
	}
	for up, part := range m.parts {
		if slices.Contains(part.Kids, at) {
			if selects(part) {
				return false
			}
			at = up
		}
	}
	return true
}

// decider goes down from a part to the one that decides what it is worth.
func (m meaning) decider(at int, s sight) int {
	kids := m.parts[at].Kids
	switch e := m.evaluators[at].(type) {
	case negation:
		return m.decider(kids[0], s)
	case junction:
		if first := e.settler(s); first >= 0 {
			return m.decider(kids[first], s)
		}
	}
	return at
}
