package show_test

import (
	"slices"

	"berth/api"
)

// twig is a part with its kids in it, out of which lists are written: part's own Kids are not looked at.
type twig struct {
	part api.Part
	kids []twig
}

// list writes a twig down in postorder.
func list(w twig) api.Tree {
	var tree api.Tree
	var put func(w twig) int
	put = func(w twig) int {
		part := w.part
		part.Kids = nil
		for _, kid := range w.kids {
			part.Kids = append(part.Kids, put(kid))
		}
		tree.Parts = append(tree.Parts, part)
		return len(tree.Parts) - 1
	}
	put(w)
	return tree
}

func of(kind api.Kind, text string, num int, kids ...twig) twig {
	return twig{api.Part{Kind: kind, Text: text, Num: num}, kids}
}

const (
	pod  = int(api.OfPod)
	node = int(api.OfNode)
	it   = int(api.OfIt)
)

var (
	yes = of(api.KTrue, "", 0)
	no  = of(api.KFalse, "", 0)
)

func not(kid twig) twig                         { return of(api.KNot, "", 0, kid) }
func and(kids ...twig) twig                     { return of(api.KAnd, "", 0, kids...) }
func or(kids ...twig) twig                      { return of(api.KOr, "", 0, kids...) }
func cmp(left twig, c api.Cmp, r twig) twig     { return of(api.KCmp, "", int(c), left, r) }
func in(left, right twig) twig                  { return of(api.KIn, "", 0, left, right) }
func notin(left, right twig) twig               { return of(api.KIn, "", 1, left, right) }
func near(key string, kid twig) twig            { return of(api.KNear, key, 0, kid) }
func apart(key string, kid twig) twig           { return of(api.KApart, key, 0, kid) }
func count(key string, kid twig) twig           { return of(api.KCount, key, 0, kid) }
func tolerated(effect string) twig              { return of(api.KTolerated, effect, 0) }
func text(s string) twig                        { return of(api.KText, s, 0) }
func num(n int) twig                            { return of(api.KNum, "", n) }
func set(kids ...twig) twig                     { return of(api.KSet, "", 0, kids...) }
func label(side int, key string) twig           { return of(api.KLabel, key, side) }
func name(side int) twig                        { return of(api.KName, "", side) }
func keys(side int) twig                        { return of(api.KKeys, "", side) }
func taints(side int) twig                      { return of(api.KTaints, "", side) }
func capacity(side int, res string) twig        { return of(api.KCap, res, side) }
func integer(kid twig) twig                     { return of(api.KInt, "", 0, kid) }
func equal(left, right twig) twig               { return cmp(left, api.CmpEq, right) }
func many(n int, w twig) []twig                 { return slices.Repeat([]twig{w}, n) }
func parts(list ...api.Part) api.Tree           { return api.Tree{Parts: list} }
func plain(kind api.Kind, kids ...int) api.Part { return api.Part{Kind: kind, Kids: kids} }

func full(kind api.Kind, text string, num int, kids ...int) api.Part {
	return api.Part{Kind: kind, Text: text, Num: num, Kids: kids}
}

// sample is one way to be a part of a kind, with its text and how much nest it has of its own.
type sample struct {
	twig twig
	text string
	nest int
}

// conditionSamples and termSamples have each kind at least once, the last time with kids where it may have some.
var conditionSamples = []sample{
	{yes, "true", 0},
	{no, "false", 0},
	{not(yes), "!true", 1},
	{and(yes, no), "true && false", 0},
	{or(yes, no), "true || false", 0},
	{cmp(num(1), api.CmpLt, num(2)), "1 < 2", 0},
	{in(text("a"), set()), `"a" in {}`, 0},
	{notin(num(-1), keys(pod)), "-1 notin pod.keys", 0},
	{near("z", no), `near("z", false)`, 1},
	{apart("", no), `apart("", false)`, 1},
	{tolerated("NoSchedule"), `tolerated("NoSchedule")`, 0},
}

var termSamples = []sample{
	{text("a b"), `"a b"`, 0},
	{num(-7), "-7", 0},
	{set(), "{}", 0},
	{set(num(1), text("x")), `{1, "x"}`, 0},
	{label(node, "zone"), `node["zone"]`, 0},
	{name(pod), "pod.name", 0},
	{keys(it), "it.keys", 0},
	{taints(node), "node.taints", 0},
	{capacity(node, "cpu"), `node.cap("cpu")`, 0},
	{integer(text("8")), `int("8")`, 1},
	{count("rack", yes), `count("rack", true)`, 1},
}
