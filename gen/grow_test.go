package gen_test

import (
	"fmt"
	"slices"

	"berth/api"
)

func textTerm(s string) api.Term { return api.Term{Kind: api.TermText, Key: s} }
func labelTerm(side api.Side, s string) api.Term {
	return api.Term{Kind: api.TermLabel, Side: side, Key: s}
}
func nameTerm(side api.Side) api.Term { return api.Term{Kind: api.TermName, Side: side} }
func numTerm(side api.Side, s string) api.Term {
	return api.Term{Kind: api.TermNumber, Side: side, Key: s}
}
func capTerm(s string) api.Term            { return api.Term{Kind: api.TermCap, Key: s} }
func countTerm(s string, sel int) api.Term { return api.Term{Kind: api.TermCount, Key: s, Sel: sel} }

func texts(t api.Term, values ...string) api.Lit {
	return api.Lit{Kind: api.LitIn, Term: t, Texts: values}
}

func nums(t api.Term, values ...int) api.Lit {
	return api.Lit{Kind: api.LitIn, Term: t, Nums: values}
}

func rel(t api.Term, c api.Cmp, n int) api.Lit {
	return api.Lit{Kind: api.LitRel, Term: t, Rel: c, Num: n}
}

func beside(t api.Term, c api.Cmp, other api.Term) api.Lit {
	return api.Lit{Kind: api.LitPod, Term: t, Rel: c, Other: other}
}

func inKeys(t api.Term, of api.Side) api.Lit { return api.Lit{Kind: api.LitKeys, Term: t, Of: of} }
func inTaints(t api.Term) api.Lit            { return api.Lit{Kind: api.LitTaints, Term: t} }
func tol(effect string) api.Lit              { return api.Lit{Kind: api.LitTol, Key: effect} }
func near(key string, sel int) api.Lit       { return api.Lit{Kind: api.LitNear, Key: key, Sel: sel} }
func hasKey(key string) api.Lit              { return inKeys(textTerm(key), api.OfNode) }
func itHas(key string) api.Lit               { return inKeys(textTerm(key), api.OfIt) }
func zone(values ...string) api.Lit          { return texts(labelTerm(api.OfNode, "zone"), values...) }
func cores(values ...int) api.Lit            { return nums(numTerm(api.OfNode, "cores"), values...) }
func counted(sel int, n ...int) api.Lit      { return nums(countTerm("rack", sel), n...) }

// leaf is a DLit with the literal.
func leaf(l api.Lit) api.DagPart { return api.DagPart{Kind: api.DLit, Lit: l} }

func node(kind api.DagKind, kids ...int) api.DagPart { return api.DagPart{Kind: kind, Kids: kids} }

// forPods is a part as it stands in a selector.
func forPods(part api.DagPart) api.DagPart {
	part.Pods = true
	return part
}

// dag has these parts, the last one as its Root.
func dag(parts ...api.DagPart) api.Dag { return api.Dag{Parts: parts, Root: len(parts) - 1} }

func rooted(root int, parts ...api.DagPart) api.Dag { return api.Dag{Parts: parts, Root: root} }

// Parts of unlike things: a, b and c for nodes, s and u for pods; constants.
var (
	a   = leaf(tol("a"))
	b   = leaf(tol("b"))
	c   = leaf(tol("c"))
	s   = forPods(leaf(texts(labelTerm(api.OfIt, "x"), "1")))
	u   = forPods(leaf(texts(nameTerm(api.OfIt), "2")))
	yes = node(api.DTrue)
	no  = node(api.DFalse)
)

const most = 999_999_999_999_999_999

// upTo are the numbers from 0 on.
func upTo(n int) []int {
	out := make([]int, n)
	for i := range out {
		out[i] = i
	}
	return out
}

// words are that many texts that rise.
func words(n int) []string {
	out := make([]string, n)
	for i := range out {
		out[i] = fmt.Sprintf("%04d", i)
	}
	return out
}

// spread are that many parts, made by a function of their numbers.
func spread(n int, make func(i int) api.DagPart) []api.DagPart {
	var out []api.DagPart
	for i := range n {
		out = append(out, make(i))
	}
	return out
}

// doubling is a part with that many joints of a kind above it, each of which has the one below it as its kid twice.
func doubling(part api.DagPart, kind api.DagKind, joints int) api.Dag {
	parts := []api.DagPart{part}
	for i := range joints {
		joint := node(kind, i, i)
		joint.Pods = part.Pods
		parts = append(parts, joint)
	}
	return dag(parts...)
}

// chain nests joints of the kinds, by turns, in one another above the last of the parts: the inner one is the last kid of the outer one, or, if ahead, the first.
func chain(parts []api.DagPart, joints int, ahead bool, kinds ...api.DagKind) []api.DagPart {
	parts = slices.Clone(parts)
	for i := range joints {
		inner := len(parts) - 1
		other := yes
		other.Pods = parts[inner].Pods
		parts = append(parts, other)
		kids := []int{inner + 1, inner}
		if ahead {
			kids = []int{inner, inner + 1}
		}
		joint := node(kinds[i%len(kinds)], kids...)
		joint.Pods = other.Pods
		parts = append(parts, joint)
	}
	return parts
}
