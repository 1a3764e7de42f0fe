package code_test

import (
	"bytes"
	"fmt"
	"strings"
	"testing"

	"berth/api"
	"berth/gen"
	"berth/merge"
	"berth/norm"
	"berth/parse"
	"berth/share"
)

// compiled are the programs of a source: of its merged plan, and of the plan as norm makes it.
func compiled(t *testing.T, source string) []api.Program {
	t.Helper()
	tree, _, err := parse.Parse(source)
	if err != nil {
		t.Fatalf("%s: %v", source, err)
	}
	plain, e := norm.Plan(tree, api.OfNode)
	small, f := merge.Merge(plain)
	if e != api.OK || f != api.OK {
		t.Fatalf("%s: %d, %d", source, e, f)
	}
	var out []api.Program
	for _, plan := range []api.Plan{small, plain} {
		dag, e := share.Share(plan)
		p, f := gen.Gen(dag)
		if e != api.OK || f != api.OK {
			t.Fatalf("%s: %d, %d", source, e, f)
		}
		out = append(out, p)
	}
	return out
}

// DOC.md, example 7: true compiles to these bytes.
func TestBytesOfTrue(t *testing.T) {
	for _, p := range compiled(t, "true") {
		if got, want := tryEncode(t, p), raw(t, "42 52 54 01 01 00 00 00 00 00 02 02 00 24"); !bytes.Equal(got, want) {
			t.Errorf("% x, want % x", got, want)
		}
	}
}

// source is a condition in the language, at most so deep, of a node or, in a selector, of it.
func (r chance) source(who string, deep int) string {
	if deep > 0 && r.IntN(4) > 0 {
		first, second := r.source(who, deep-1), r.source(who, deep-1)
		if r.IntN(4) == 0 {
			second = first
		}
		return one(r, "!", "", "") + "(" + first + one(r, " && ", " || ") + second + ")"
	}
	text := func() string { return one(r, `""`, `"a"`, `"zone"`, `"`+strings.Repeat("x", 127)+`"`, `"é"`) }
	num := func() string { return fmt.Sprint(one(r, 0, -1, 1, 63, 64, -65, far-1, -far+1, r.IntN(10000))) }
	key := func() string { return one(r, `"zone"`, `"rack"`, `"a.b/c"`) }
	relation := one(r, "==", "!=", "<", "<=", ">", ">=")
	number := fmt.Sprintf("int(%s[%s])", one(r, who, who, "pod"), key())
	if who == "node" {
		selector := r.source("it", min(deep, 1))
		switch r.IntN(8) {
		case 0, 1:
			return fmt.Sprintf("%s(%s, %s)", one(r, "near", "apart"), key(), selector)
		case 2:
			return one(r, `tolerated("NoSchedule")`, `"t" in node.taints`, `pod["zone"] in node.taints`)
		case 3, 4:
			number = fmt.Sprintf("count(%s, %s)", key(), selector)
		case 5:
			number = `node.cap("cpu")`
		}
	}
	switch r.IntN(6) {
	case 0:
		return fmt.Sprintf("%s %s {%s, %s}", number, one(r, "in", "notin"), num(), num())
	case 1:
		return fmt.Sprintf("%s %s int(pod[%s])", number, relation, key())
	case 2:
		return fmt.Sprintf("%s %s %s", number, relation, num())
	case 3:
		return fmt.Sprintf("%s.name %s pod.name", who, one(r, "==", "!="))
	case 4:
		return fmt.Sprintf("%s in %s.keys", one(r, key(), `pod["zone"]`), one(r, who, "pod"))
	}
	return fmt.Sprintf("%s[%s] %s {%s, %s, %s}", who, key(), one(r, "in", "notin"), text(), text(), text())
}

// P20.1, P20.3, P20.4, DOC.md P3 and P6: what gen makes of sources has bytes, which decode as the same program; cut off they are refused.
func TestProgramsOfSources(t *testing.T) {
	r := newChance(6)
	ops := map[api.Op]int{}
	sources := []string{
		`false`, `node["zone"] in {"x", "y"} && node["rack"] != "x" || !(int(node["n"]) < 2) && int(node["n"]) notin {2, 3}`,
		`count("zone", it["rack"] == "x") >= 1 && (near("rack", it["rack"] == "x") || count("rack", !(it["rack"] == "x")) < 3)`,
		`int(node["n"]) > 999999999999999999 || int(node["n"]) < -999999999999999999 || node.cap("cpu") in {999999999999999999, -999999999999999999}`,
	}
	for range 1500 {
		sources = append(sources, r.source("node", one(r, 0, 1, 2, 4)))
	}
	for _, source := range sources {
		for _, p := range compiled(t, source) {
			b := tryEncode(t, p)
			if b == nil {
				t.Fatalf("%s: %s has no form", source, told(p))
			}
			size := r.IntN(len(b))
			wantFault(t, b[:size], fault{api.ErrCodeCut, size})
			for _, i := range p.Code {
				ops[i.Op]++
			}
		}
	}
	for op := api.Op(1); op <= 36; op++ {
		if ops[op] == 0 && op != api.OpPop {
			t.Errorf("no program has the Op %d", op)
		}
	}
}
