package filter

import (
	"cmp"

	"berth/api"
	"berth/labels"
)

// wrong is the first thing that this layer holds against a pod that layer 6 takes.
func wrong(p api.Pod) error {
	if p.Priority < -api.MaxPriority || p.Priority > api.MaxPriority {
		return &api.Fault{Code: api.ErrPriority, At: -1}
	}
	if len(p.Apart) > api.MaxApart || len(p.Prefer) > api.MaxPrefer {
		return &api.Fault{Code: api.ErrTerms, At: -1}
	}
	if _, err := required(p); err != nil {
		return &api.Fault{Code: api.ErrRequire, At: -1, Cause: err}
	}
	for at, term := range p.Apart {
		if _, err := selector(term); err != nil {
			return &api.Fault{Code: api.ErrApart, At: at, Cause: err}
		}
	}
	for at, term := range p.Prefer {
		if term.Weight < 1 || term.Weight > api.MaxWeight {
			return &api.Fault{Code: api.ErrWeight, At: at}
		}
		if _, err := Tree(term.Text, api.OfNode); err != nil {
			return &api.Fault{Code: api.ErrPrefer, At: at, Cause: err}
		}
	}
	return nil
}

// required is the tree of a pod's constraint. The empty source, which Tree refuses, stands for true there (L10).
func required(p api.Pod) (api.Tree, error) {
	return Tree(cmp.Or(p.Require, "true"), api.OfNode)
}

// selector is the tree of an apart term's selector.
func selector(term api.Apart) (api.Tree, error) {
	if !labels.IsKey(term.Topo) {
		return api.Tree{}, api.ErrKey
	}
	return Tree(term.Select, api.OfIt)
}
