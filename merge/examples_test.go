package merge_test

import (
	"strings"
	"testing"

	"berth/api"
)

// source is a row of the chapter's table as the language writes it.
func source(row string) string {
	return strings.NewReplacer("Z", `node["zone"]`, "C", `int(node["cores"])`, "<a>", `("a" in node.keys)`, "<b>", `("b" in node.keys)`, "<c>", `("c" in node.keys)`).Replace(row)
}

// P17.1 to P17.4: the chapter's examples.
func TestExamples(t *testing.T) {
	for _, x := range [][2]string{
		{`Z in {"a","b"} && Z notin {"b"}`, `Z in {"a"}`},
		{`Z in {"a"} && Z in {"b"}`, `false`},
		{`Z in {"a"} && <a> && Z in {"a","b"}`, `Z in {"a"} && <a>`},
		{`Z in {"a"} || Z in {"b"}`, `Z in {"a","b"}`},
		{`Z notin {"a"} || Z notin {"b"}`, `true`},
		{`Z in {"a","b"} || Z notin {"b","c"}`, `Z notin {"c"}`},
		{`C >= 4 && C <= 9 && C notin {4,6,12}`, `C >= 5 && C <= 9 && C notin {6}`},
		{`C >= 4 && C <= 4`, `C in {4}`},
		{`C >= 4 && !(C >= 9)`, `C >= 4 && C <= 8`},
		{`!(C >= 9) && !(C <= 3)`, `!(C <= 3) && !(C >= 9)`},
		{`!(C <= 3) && !(C >= 4)`, `!(C <= 3) && !(C >= 4)`},
		{`C <= 3 || C >= 4`, `C <= 3 || C >= 4`},
		{`C in {1,5,9} && C >= 5 && <a>`, `C in {5,9} && <a>`},
		{`C <= 3 || C in {4,7}`, `C <= 4 || C in {7}`},
		{`<a> && (<a> || <b>)`, `<a>`},
		{`(<a> || <b>) && (<c> || <b> || <a>)`, `<a> || <b>`},
		{`<a> && (<b> && (<c> && <a>))`, `<a> && <b> && <c>`},
		{`<a> || !<a>`, `true`},
		{`(<a> || Z in {}) && true`, `<a>`},
		{`near("rack", false) || <a>`, `<a>`},
		{`near("rack", it["x"] == "1" && it["x"] != "2") && near("rack", it["x"] == "1")`, `near("rack", it["x"] == "1")`},
	} {
		expect(t, read(t, source(x[0])), read(t, source(x[1])))
	}
}

// P17.1 to P17.4: those of the chapter's examples that layer 16 folds by itself, written as plans.
func TestExamplesByHand(t *testing.T) {
	expect(t, plan(and(or(a, zone()), yes)), plan(a))
	expect(t, plan(or(near("rack", 0), a), no), plan(a))
	one := itHas("x", "1")
	p := plan(and(near("rack", 0), near("rack", 1)), and(one, not(itHas("x", "2"))), one)
	expect(t, p, plan(near("rack", 0), one))
}

// DOC.md, the sixth example of the whole.
func TestExampleOfTheWhole(t *testing.T) {
	expect(t, read(t, `node["zone"] == "x" && node["zone"] in {"y"}`), plan(no))
	expect(t, read(t, `node["zone"] == "x" || node["zone"] != "x"`), plan(yes))
}

// P17.2: a plan for pods, whose Main is a selector, is made by the same rules.
func TestPlansForPods(t *testing.T) {
	x, n := labelTerm(api.OfIt, "x"), numTerm(api.OfIt, "n")
	p := plan(and(texts(x, "1", "2"), rel(n, api.CmpGe, 3), not(texts(x, "1")), rel(n, api.CmpLe, 3)))
	expect(t, p, plan(and(texts(x, "2"), nums(n, 3))))
	expect(t, plan(or(inKeys(x, api.OfPod), itHas("x", "1"), inKeys(x, api.OfPod))), plan(or(inKeys(x, api.OfPod), itHas("x", "1"))))
	expect(t, plan(and(beside(nameTerm(api.OfPod), api.CmpEq, nameTerm(api.OfPod)), yes)), plan(beside(nameTerm(api.OfPod), api.CmpEq, nameTerm(api.OfPod))))
}
