package sorts

import (
	"errors"
	"testing"

	"berth/api"
)

// Layer 14's way: a fault on its way up is wrapped by each part round the one that broke a rule, and found again in it.
func TestFaultOnItsWayUp(t *testing.T) {
	tree := api.Tree{Parts: []api.Part{
		{Kind: api.KTolerated, Text: "Never"},
		{Kind: api.KNot, Kids: []int{0}},
		{Kind: api.KNot, Kids: []int{1}},
	}}
	types, err := typesOf(tree, api.OfNode)
	want := "in part 2: in part 1: " + (&api.Fault{Code: api.ErrSortKey}).Error()
	if types != nil || err == nil || err.Error() != want {
		t.Fatalf("typesOf = %v, %v, want %s", types, err, want)
	}
	var deep *api.Fault
	if _, face := err.(*api.Fault); face || !errors.As(err, &deep) || deep.Code != api.ErrSortKey || deep.At != 0 {
		t.Errorf("%v: the fault found in it is %v", err, deep)
	}
}
