package share_test

import (
	"fmt"
	"slices"
	"testing"

	"berth/api"
	"berth/norm"
	"berth/parse"
)

// twig is a part of a plan with its kids in it, out of which lists are written: part's own Kids are not looked at.
type twig struct {
	part api.PlanPart
	kids []twig
}

// list writes a twig down in postorder.
func list(w twig) []api.PlanPart {
	var out []api.PlanPart
	var put func(w twig) int
	put = func(w twig) int {
		part := w.part
		part.Kids = nil
		for _, kid := range w.kids {
			part.Kids = append(part.Kids, put(kid))
		}
		out = append(out, part)
		return len(out) - 1
	}
	put(w)
	return out
}

// grown is the twig of a list in postorder.
func grown(list []api.PlanPart) twig {
	var at func(i int) twig
	at = func(i int) twig {
		w := twig{part: list[i]}
		w.part.Kids = nil
		for _, kid := range list[i].Kids {
			w.kids = append(w.kids, at(kid))
		}
		return w
	}
	return at(len(list) - 1)
}

// plan has these twigs as its Main and its selectors.
func plan(main twig, sels ...twig) api.Plan {
	p := api.Plan{Main: list(main)}
	for _, sel := range sels {
		p.Sels = append(p.Sels, list(sel))
	}
	return p
}

// read is the plan of a source.
func read(t *testing.T, source string) api.Plan {
	t.Helper()
	tree, _, err := parse.Parse(source)
	if err != nil {
		t.Fatalf("%q: %v", source, err)
	}
	p, e := norm.Plan(tree, api.OfNode)
	if e != api.OK {
		t.Fatalf("%q: %d", source, e)
	}
	return p
}

func of(kind api.PlanKind, kids ...twig) twig { return twig{api.PlanPart{Kind: kind}, kids} }

var (
	yes = of(api.PTrue)
	no  = of(api.PFalse)
)

func and(kids ...twig) twig     { return of(api.PAnd, kids...) }
func or(kids ...twig) twig      { return of(api.POr, kids...) }
func lit(l api.Lit) twig        { return twig{part: api.PlanPart{Kind: api.PLit, Lit: l}} }
func many(n int, w twig) []twig { return slices.Repeat([]twig{w}, n) }

// not is the negation of a twig: all in it turned about.
func not(w twig) twig {
	switch w.part.Kind {
	case api.PLit:
		w.part.Neg = !w.part.Neg
	case api.PTrue, api.PFalse:
		w.part.Kind = api.PTrue + api.PFalse - w.part.Kind
	default:
		w.part.Kind = api.PAnd + api.POr - w.part.Kind
	}
	w.kids = slices.Clone(w.kids)
	for i := range w.kids {
		w.kids[i] = not(w.kids[i])
	}
	return w
}

// chain nests parts in one another: by turns of the kinds, each with one of the twigs, ahead of the one that stands in it or behind it.
func chain(kids []twig, behind bool, kinds ...api.PlanKind) twig {
	out := kids[0]
	for i, kid := range kids[1:] {
		pair := []twig{kid, out}
		if behind {
			pair = []twig{out, kid}
		}
		out = of(kinds[i%len(kinds)], pair...)
	}
	return out
}

// spread are that many twigs, made by a function of their numbers.
func spread(n int, make func(i int) twig) []twig {
	var out []twig
	for i := range n {
		out = append(out, make(i))
	}
	return out
}

func textTerm(s string) api.Term { return api.Term{Kind: api.TermText, Key: s} }
func labelTerm(side api.Side, s string) api.Term {
	return api.Term{Kind: api.TermLabel, Side: side, Key: s}
}
func nameTerm(side api.Side) api.Term { return api.Term{Kind: api.TermName, Side: side} }
func numTerm(side api.Side, s string) api.Term {
	return api.Term{Kind: api.TermNumber, Side: side, Key: s}
}
func capTerm(s string) api.Term            { return api.Term{Kind: api.TermCap, Key: s} }
func countTerm(s string, sel int) api.Term { return api.Term{Kind: api.TermCount, Key: s, Sel: sel} }

func isText(t api.Term) bool { return t.Kind == api.TermLabel || t.Kind == api.TermName }

func isNumber(t api.Term) bool {
	return t.Kind == api.TermNumber || t.Kind == api.TermCap || t.Kind == api.TermCount
}

func texts(t api.Term, values ...string) twig {
	return lit(api.Lit{Kind: api.LitIn, Term: t, Texts: values})
}

func nums(t api.Term, values ...int) twig {
	return lit(api.Lit{Kind: api.LitIn, Term: t, Nums: values})
}

func rel(t api.Term, c api.Cmp, n int) twig {
	return lit(api.Lit{Kind: api.LitRel, Term: t, Rel: c, Num: n})
}

func beside(t api.Term, c api.Cmp, other api.Term) twig {
	return lit(api.Lit{Kind: api.LitPod, Term: t, Rel: c, Other: other})
}

func inKeys(t api.Term, of api.Side) twig {
	return lit(api.Lit{Kind: api.LitKeys, Term: t, Of: of})
}

func inTaints(t api.Term) twig       { return lit(api.Lit{Kind: api.LitTaints, Term: t}) }
func tol(effect string) twig         { return lit(api.Lit{Kind: api.LitTol, Key: effect}) }
func near(key string, sel int) twig  { return lit(api.Lit{Kind: api.LitNear, Key: key, Sel: sel}) }
func hasKey(key string) twig         { return inKeys(textTerm(key), api.OfNode) }
func keyed(i int) twig               { return hasKey(fmt.Sprint("k", i)) }
func zone(values ...string) twig     { return texts(labelTerm(api.OfNode, "zone"), values...) }
func cores(values ...int) twig       { return nums(numTerm(api.OfNode, "cores"), values...) }
func itHas(key, value string) twig   { return texts(labelTerm(api.OfIt, key), value) }
func counted(sel int, n ...int) twig { return nums(countTerm("rack", sel), n...) }

// Literals of unlike things, and such as stand in selectors.
var (
	a = hasKey("a")
	b = hasKey("b")
	c = hasKey("c")
	d = hasKey("d")
	s = itHas("x", "1")
	u = itHas("x", "2")
	v = inKeys(textTerm("a"), api.OfIt)
)

const most = 999_999_999_999_999_999

// upTo are the numbers from 0 on.
func upTo(n int) []int {
	out := make([]int, n)
	for i := range out {
		out[i] = i
	}
	return out
}

// words are that many texts that rise.
func words(n int) []string {
	out := make([]string, n)
	for i := range out {
		out[i] = fmt.Sprintf("%04d", i)
	}
	return out
}

// leaf is a DLit with the literal of a twig.
func leaf(w twig) api.DagPart { return api.DagPart{Kind: api.DLit, Lit: w.part.Lit} }

func node(kind api.DagKind, kids ...int) api.DagPart { return api.DagPart{Kind: kind, Kids: kids} }

// forPods is a part as it stands in a selector.
func forPods(part api.DagPart) api.DagPart {
	part.Pods = true
	return part
}

// dag has these parts, the last one as its Root.
func dag(parts ...api.DagPart) api.Dag { return api.Dag{Parts: parts, Root: len(parts) - 1} }

func rooted(root int, parts ...api.DagPart) api.Dag { return api.Dag{Parts: parts, Root: root} }
