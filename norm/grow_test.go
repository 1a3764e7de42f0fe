package norm_test

import (
	"slices"
	"testing"

	"berth/api"
	"berth/cluster"
	"berth/parse"
)

// twig is a part with its kids in it, out of which lists are written: part's own Kids are not looked at.
type twig struct {
	part api.Part
	kids []twig
}

// list writes a twig down in postorder.
func list(w twig) api.Tree {
	var tree api.Tree
	var put func(w twig) int
	put = func(w twig) int {
		part := w.part
		part.Kids = nil
		for _, kid := range w.kids {
			part.Kids = append(part.Kids, put(kid))
		}
		tree.Parts = append(tree.Parts, part)
		return len(tree.Parts) - 1
	}
	put(w)
	return tree
}

// read is the tree of a source.
func read(t *testing.T, source string) api.Tree {
	t.Helper()
	tree, _, err := parse.Parse(source)
	if err != nil {
		t.Fatalf("%q: %v", source, err)
	}
	return tree
}

func of(kind api.Kind, text string, num int, kids ...twig) twig {
	return twig{api.Part{Kind: kind, Text: text, Num: num}, kids}
}

const (
	pod  = int(api.OfPod)
	node = int(api.OfNode)
	it   = int(api.OfIt)
)

var (
	yes = of(api.KTrue, "", 0)
	no  = of(api.KFalse, "", 0)
)

func not(kid twig) twig                     { return of(api.KNot, "", 0, kid) }
func and(kids ...twig) twig                 { return of(api.KAnd, "", 0, kids...) }
func or(kids ...twig) twig                  { return of(api.KOr, "", 0, kids...) }
func cmp(left twig, c api.Cmp, r twig) twig { return of(api.KCmp, "", int(c), left, r) }
func equal(left, right twig) twig           { return cmp(left, api.CmpEq, right) }
func in(left, right twig) twig              { return of(api.KIn, "", 0, left, right) }
func notin(left, right twig) twig           { return of(api.KIn, "", 1, left, right) }
func near(key string, kid twig) twig        { return of(api.KNear, key, 0, kid) }
func apart(key string, kid twig) twig       { return of(api.KApart, key, 0, kid) }
func count(key string, kid twig) twig       { return of(api.KCount, key, 0, kid) }
func tolerated(effect string) twig          { return of(api.KTolerated, effect, 0) }
func text(s string) twig                    { return of(api.KText, s, 0) }
func num(n int) twig                        { return of(api.KNum, "", n) }
func set(kids ...twig) twig                 { return of(api.KSet, "", 0, kids...) }
func label(side int, key string) twig       { return of(api.KLabel, key, side) }
func name(side int) twig                    { return of(api.KName, "", side) }
func keys(side int) twig                    { return of(api.KKeys, "", side) }
func taints(side int) twig                  { return of(api.KTaints, "", side) }
func capacity(side int, r string) twig      { return of(api.KCap, r, side) }
func integer(kid twig) twig                 { return of(api.KInt, "", 0, kid) }
func many(n int, w twig) []twig             { return slices.Repeat([]twig{w}, n) }

// asked is a condition that has a count in it.
func asked(w twig) twig { return cmp(w, api.CmpGe, num(1)) }

// labelled is a list of labels, out of keys and values by turns, in just this order.
func labelled(words ...string) []api.Label {
	var out []api.Label
	for pair := range slices.Chunk(words, 2) {
		out = append(out, api.Label{Key: pair[0], Value: pair[1]})
	}
	return out
}

// stand is a bound pod and its node.
type stand struct {
	pod api.Pod
	on  string
}

// clusterOf is a cluster with these nodes and bound pods, added in this order.
func clusterOf(t *testing.T, nodes []api.Node, pods ...stand) *cluster.Cluster {
	t.Helper()
	c := cluster.New()
	for _, n := range nodes {
		if _, err := c.Add(n); err != nil {
			t.Fatal(n, err)
		}
	}
	for _, p := range pods {
		if _, err := c.Bind(p.pod, p.on); err != nil {
			t.Fatal(p, err)
		}
	}
	return c
}
