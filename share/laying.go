package share

import "berth/api"

// laying is a dag while it is made of a plan.
type laying struct {
	parts  []api.DagPart
	places map[likeness]int // where the parts stand
	sels   [][]api.PlanPart // the plan's
	met    map[int]int      // by its place in sels, where a selector's last part stands
}

func newLaying(sels [][]api.PlanPart) *laying {
	return &laying{places: map[likeness]int{}, sels: sels, met: map[int]int{}}
}

// list lays the parts of a list and answers the place of its last one.
func (l *laying) list(list []api.PlanPart, pods bool) int {
	places := make([]int, len(list))
	for at, part := range list {
		place := l.lay(api.DagPart{
			Kind: laidKind(part.Kind),
			Pods: pods,
			Lit:  numbered(part.Lit, l.selector),
			Kids: placesOf(part.Kids, places),
		})
		if part.Neg {
			place = l.lay(api.DagPart{Kind: api.DNot, Pods: pods, Kids: []int{place}})
		}
		places[at] = place
	}
	return places[len(list)-1]
}

// selector lays a selector where it is met for the first time.
func (l *laying) selector(selector int) int {
	place, met := l.met[selector]
	if !met {
		place = l.list(l.sels[selector], true)
		l.met[selector] = place
	}
	return place
}

// lay answers the place of a part that is alike, else writes this one down.
func (l *laying) lay(part api.DagPart) int {
	like := likenessOf(part)
	place, known := l.places[like]
	if !known {
		place = len(l.parts)
		l.places[like] = place
		part.Lit = ownLists(part.Lit)
		l.parts = append(l.parts, part)
	}
	return place
}

func laidKind(kind api.PlanKind) api.DagKind {
	switch kind {
	case api.PTrue:
		return api.DTrue
	case api.PFalse:
		return api.DFalse
	case api.PAnd:
		return api.DAnd
	case api.POr:
		return api.DOr
	}
	return api.DLit
}

// placesOf are the places in the dag of kids, by those of all parts of their list.
func placesOf(kids, places []int) []int {
	var out []int
	for _, kid := range kids {
		out = append(out, places[kid])
	}
	return out
}
