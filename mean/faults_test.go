package mean_test

import (
	"errors"
	"math"
	"testing"

	"berth/api"
	"berth/cluster"
	"berth/mean"
)

func part(kind api.Kind, kids ...int) api.Part { return api.Part{Kind: kind, Kids: kids} }

func parts(list ...api.Part) api.Tree { return api.Tree{Parts: list} }

// unfit is a tree that layer 13 refuses, and how.
type unfit struct {
	tree api.Tree
	code api.Errno
	at   int
}

// invalid are trees that layer 13 refuses.
func invalid() []unfit {
	deep := yes
	for range 33 {
		deep = not(deep)
	}
	always := part(api.KTrue)
	return []unfit{
		{api.Tree{}, api.ErrTree, 0},
		{parts(), api.ErrTree, 0},
		{parts(part(0)), api.ErrTree, 0},
		{parts(part(21)), api.ErrTree, 0},
		{parts(always, always), api.ErrTree, 1},
		{parts(always, part(api.KNot, 1)), api.ErrTree, 1},
		{parts(always, part(api.KNot, -1)), api.ErrTree, 1},
		{parts(always, part(api.KNot, math.MaxInt)), api.ErrTree, 1},
		{parts(always, always, part(api.KAnd, 1, 0)), api.ErrTree, 2},
		{parts(part(api.KNot)), api.ErrTree, 0},
		{parts(part(api.KNear, 0)), api.ErrTree, 0},
		{parts(part(api.KCount)), api.ErrTree, 0},
		{list(text("a")), api.ErrTree, 0},
		{list(name(node)), api.ErrTree, 0},
		{list(count("zone", yes)), api.ErrTree, 1},
		{list(equal(name(0), text("a"))), api.ErrTree, 0},
		{list(cmp(num(1), 7, num(1))), api.ErrTree, 2},
		{list(cmp(num(1), 0, num(1))), api.ErrTree, 2},
		{list(not(num(1))), api.ErrTree, 1},
		{list(and(yes)), api.ErrTree, 1},
		{list(or(many(1000, no)...)), api.ErrTree, 1000},
		{list(in(num(1), set(many(65, num(1))...))), api.ErrTree, 66},
		{list(deep), api.ErrNest, 0},
	}
}

// senseless are trees that layer 14 refuses as constraints: the rule and the place.
var senseless = []struct {
	tree twig
	code api.Errno
	at   int
}{
	{cmp(name(node), api.CmpLt, text("b")), api.ErrSortType, 2},
	{equal(name(node), num(3)), api.ErrSortType, 1},
	{equal(set(num(1)), num(2)), api.ErrSortType, 1},
	{in(label(node, "x"), text("x")), api.ErrSortType, 1},
	{in(num(1), keys(pod)), api.ErrSortType, 1},
	{equal(name(it), text("a")), api.ErrSortScope, 0},
	{near("zone", equal(name(node), text("a"))), api.ErrSortScope, 0},
	{and(yes, apart("zone", in(text("a"), taints(node)))), api.ErrSortScope, 2},
	{equal(capacity(pod, "cpu"), num(1)), api.ErrSortScope, 0},
	{near("zone", apart("rack", yes)), api.ErrSortInner, 1},
	{asked(count("zone", asked(count("rack", no)))), api.ErrSortInner, 1},
	{equal(label(node, "a"), label(node, "b")), api.ErrSortSides, 2},
	{cmp(count("zone", yes), api.CmpGe, capacity(node, "cpu")), api.ErrSortSides, 3},
	{in(text("a"), set(text("a"), num(1))), api.ErrSortSet, 2},
	{near("a b", yes), api.ErrSortKey, 1},
	{tolerated("Never"), api.ErrSortKey, 0},
	{equal(capacity(node, "CPU"), num(1)), api.ErrSortKey, 0},
	{equal(integer(name(node)), num(1)), api.ErrSortInt, 0},
}

// refusedAll: each call tells ErrMean at a place with a cause, whether the node is there or not, and whatever the place that Value asks for.
func refusedAll(t *testing.T, tree api.Tree, want *api.Fault) {
	t.Helper()
	for _, c := range []*cluster.Cluster{nil, cluster.New(), chapterCluster(t)} {
		for _, p := range []api.Pod{{}, rawPod()} {
			for _, at := range []string{"a", "none", ""} {
				checkRefused(t, c, tree, p, at, want)
			}
			names, err := mean.Where(c, tree, p)
			if len(names) != 0 || !sameFault(err, want) {
				t.Errorf("Where(%s): %v, %v, want %v", told(tree), names, err, want)
			}
			if !errors.Is(err, api.ErrMean) || !errors.Is(err, want.Cause.(*api.Fault).Code) {
				t.Errorf("Where(%s): %v isn't what its causes are", told(tree), err)
			}
		}
	}
}

// P15.1, P15.3 to P15.5, R2, R3: ErrMean comes first, with the place and the fault of layer 14, and with layer 13's as the cause of that.
func TestTreesRefused(t *testing.T) {
	for _, x := range senseless {
		refusedAll(t, list(x.tree), &api.Fault{Code: 150, At: x.at, Cause: &api.Fault{Code: x.code, At: x.at}})
		check(t, chapterCluster(t), list(x.tree), api.Pod{})
	}
	for _, x := range invalid() {
		cause := &api.Fault{Code: api.ErrSortTree, At: x.at, Cause: &api.Fault{Code: x.code, At: x.at}}
		refusedAll(t, x.tree, &api.Fault{Code: 150, At: x.at, Cause: cause})
	}
}

// P15.1, P15.4, P15.5, R2, R3: ErrMeanNode, with the name as it was handed in, comes ahead of a part that isn't there.
func TestNodesRefused(t *testing.T) {
	tree := read(t, `near("zone", true) && node["zone"] == "x"`)
	for _, c := range []*cluster.Cluster{nil, cluster.New(), chapterCluster(t)} {
		for _, named := range []string{"", "d", "A", "a ", "p", "zone", "\xff", "a\x00", string(make([]byte, 1000))} {
			checkRefused(t, c, tree, api.Pod{Name: named}, named, &api.Fault{Code: 151, At: -1, Name: named})
		}
	}
	c := chapterCluster(t)
	if _, err := c.Remove("c"); err != nil {
		t.Fatal(err)
	}
	checkRefused(t, c, tree, api.Pod{}, "c", &api.Fault{Code: 151, At: -1, Name: "c"})
}

// P15.4: both faults of the number ErrMean: the tree's goes ahead of the node's, the node's ahead of the part's.
func TestFaultsInTheirOrder(t *testing.T) {
	c := chapterCluster(t)
	wrong, right := read(t, `node.name < "b" && near("zone", true)`), read(t, `node.name != "b" && near("zone", true)`)
	ofTree := &api.Fault{Code: 150, At: 2, Cause: &api.Fault{Code: api.ErrSortType, At: 2}}
	ofNode := &api.Fault{Code: 151, At: -1, Name: "none"}
	for _, place := range []int{-1, 3, 6, 1 << 40, math.MinInt} {
		for _, x := range []struct {
			tree api.Tree
			node string
			want *api.Fault
		}{
			{wrong, "none", ofTree},
			{wrong, "a", ofTree},
			{right, "none", ofNode},
			{right, "a", &api.Fault{Code: 150, At: place}},
		} {
			if v, err := mean.Value(c, x.tree, api.Pod{}, x.node, place); !sameValue(v, api.Value{}) || !sameFault(err, x.want) {
				t.Errorf("Value(%s) at %s of %d: %+v, %v, want %v", told(x.tree), x.node, place, v, err, x.want)
			}
		}
	}
}
