package sorts

import (
	"berth/api"
	"berth/labels"
	"berth/quant"
	"berth/taint"
)

// broken is the first rule of its kind that a part breaks, as a fault; nil, if it keeps them all. Its kids have their types.
func (w walk) broken(at int, scope api.Side) error {
	part := w.parts[at]
	switch part.Kind {
	case api.KCmp:
		return w.compared(at)
	case api.KIn:
		return w.member(at)
	case api.KSet:
		return w.alike(part.Kids)
	case api.KInt:
		return w.readable(part.Kids[0])
	}
	return asked(part, at, scope)
}

func (w walk) compared(at int) error {
	part := w.parts[at]
	first, second := part.Kids[0], part.Kids[1]
	sort := w.types[first].Sort
	switch {
	case setOf(sort) == 0:
		return fault(api.ErrSortType, first)
	case w.types[second].Sort != sort:
		return fault(api.ErrSortType, second)
	case sort == api.SortText && !equates(api.Cmp(part.Num)):
		return fault(api.ErrSortType, at)
	}
	return w.still(at)
}

func (w walk) member(at int) error {
	first, second := w.parts[at].Kids[0], w.parts[at].Kids[1]
	set := setOf(w.types[first].Sort)
	if set == 0 {
		return fault(api.ErrSortType, first)
	}
	if among := w.types[second].Sort; among != set && among != api.SortEmpty {
		return fault(api.ErrSortType, second)
	}
	return w.still(at)
}

// still: not both kids of a part move.
func (w walk) still(at int) error {
	for _, kid := range w.parts[at].Kids {
		if !moves(w.types[kid].Side) {
			return nil
		}
	}
	return fault(api.ErrSortSides, at)
}

// alike: the kids of a set are of one sort.
func (w walk) alike(kids []int) error {
	for _, kid := range kids {
		if w.types[kid].Sort != w.types[kids[0]].Sort {
			return fault(api.ErrSortSet, kid)
		}
	}
	return nil
}

// readable: int reads labels and texts alone, though there are other parts of the sort text.
func (w walk) readable(kid int) error {
	if kind := w.parts[kid].Kind; kind != api.KLabel && kind != api.KText {
		return fault(api.ErrSortInt, kid)
	}
	return nil
}

// asked: what a part asks for is known in its scope, and what it calls by a name may be called so.
func asked(part api.Part, at int, scope api.Side) error {
	switch {
	case !known(part, scope) && selects(part.Kind):
		return fault(api.ErrSortInner, at)
	case !known(part, scope):
		return fault(api.ErrSortScope, at)
	case !named(part):
		return fault(api.ErrSortKey, at)
	}
	return nil
}

func known(part api.Part, scope api.Side) bool {
	side := api.Side(part.Num)
	switch part.Kind {
	case api.KNear, api.KApart, api.KCount, api.KTolerated:
		return scope == api.OfNode
	case api.KTaints, api.KCap:
		return side == api.OfNode && scope == api.OfNode
	case api.KLabel, api.KName, api.KKeys:
		return side == api.OfPod || side == scope
	}
	return true
}

func named(part api.Part) bool {
	switch part.Kind {
	case api.KNear, api.KApart, api.KCount, api.KLabel:
		return labels.IsKey(part.Text)
	case api.KTolerated:
		return taint.IsEffect(part.Text)
	case api.KCap:
		return quant.IsName(part.Text)
	}
	return true
}

func equates(cmp api.Cmp) bool { return cmp == api.CmpEq || cmp == api.CmpNe }
