package sorts

import "berth/api"

// sortOf is the sort of a part that keeps its rules.
func (w walk) sortOf(part api.Part) api.Sort {
	switch part.Kind {
	case api.KText, api.KLabel, api.KName:
		return api.SortText
	case api.KNum, api.KCap, api.KInt, api.KCount:
		return api.SortNum
	case api.KKeys, api.KTaints:
		return api.SortTexts
	case api.KSet:
		if len(part.Kids) == 0 {
			return api.SortEmpty
		}
		return setOf(w.types[part.Kids[0]].Sort)
	}
	return api.SortBool
}

// setOf is the sort of the sets of what is of this sort; 0, where there are no such sets. Texts and numbers alone have some, and they alone may stand first in a comparison or a membership.
func setOf(sort api.Sort) api.Sort {
	switch sort {
	case api.SortText:
		return api.SortTexts
	case api.SortNum:
		return api.SortNums
	}
	return 0
}

// sideOf is the side of a part that keeps its rules. What has no side of its own has that of its kids: a set's are all fixed, an int has one.
func (w walk) sideOf(part api.Part) api.Side {
	switch part.Kind {
	case api.KNear, api.KApart, api.KCount, api.KTolerated:
		return api.OfNode
	case api.KLabel, api.KName, api.KKeys, api.KTaints, api.KCap:
		return api.Side(part.Num)
	}
	return w.joined(part.Kids)
}

// joined: in one scope all kids that move have one side, so the first of them tells it.
func (w walk) joined(kids []int) api.Side {
	all := api.Fixed
	for _, kid := range kids {
		side := w.types[kid].Side
		if moves(side) {
			return side
		}
		if side == api.OfPod {
			all = api.OfPod
		}
	}
	return all
}

func moves(side api.Side) bool { return side == api.OfNode || side == api.OfIt }
