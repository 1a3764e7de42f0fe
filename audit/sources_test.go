package audit_test

import (
	"fmt"
	"strings"
	"testing"

	"berth/api"
	"berth/audit"
	"berth/code"
	"berth/gen"
	"berth/merge"
	"berth/norm"
	"berth/parse"
	"berth/share"
)

// compiled are the programs of a source: of its merged plan, and of the plan as norm makes it.
func compiled(t *testing.T, source string) []api.Program {
	t.Helper()
	tree, _, err := parse.Parse(source)
	if err != nil {
		t.Fatalf("%s: %v", source, err)
	}
	plain, e := norm.Plan(tree, api.OfNode)
	small, f := merge.Merge(plain)
	if e != api.OK || f != api.OK {
		t.Fatalf("%s: %d, %d", source, e, f)
	}
	var out []api.Program
	for _, plan := range []api.Plan{small, plain} {
		dag, e := share.Share(plan)
		p, f := gen.Gen(dag)
		if e != api.OK || f != api.OK {
			t.Fatalf("%s: %d, %d", source, e, f)
		}
		out = append(out, p)
	}
	return out
}

// source is a condition in the language, at most so deep, of a node or, in a selector, of it.
func (r chance) source(who string, deep int) string {
	if deep > 0 && r.IntN(4) > 0 {
		first, second := r.source(who, deep-1), r.source(who, deep-1)
		if r.IntN(4) == 0 {
			second = first
		}
		return one(r, "!", "", "") + "(" + first + one(r, " && ", " || ") + second + ")"
	}
	key := func() string { return one(r, `"zone"`, `"rack"`, `"app"`) }
	num := r.IntN(9)
	relation := one(r, "==", "!=", "<", "<=", ">", ">=")
	number := fmt.Sprintf("int(%s[%s])", one(r, who, who, "pod"), key())
	if who == "node" {
		selector := r.source("it", min(deep, 2))
		switch r.IntN(8) {
		case 0, 1:
			return fmt.Sprintf("%s(%s, %s)", one(r, "near", "apart"), key(), selector)
		case 2:
			return one(r, `tolerated("NoSchedule")`, `"t" in node.taints`, `pod["zone"] in node.taints`)
		case 3, 4:
			number = fmt.Sprintf("count(%s, %s)", key(), selector)
		case 5:
			number = `node.cap("cpu")`
		}
	}
	switch r.IntN(6) {
	case 0:
		return fmt.Sprintf("%s %s {%d, %d}", number, one(r, "in", "notin"), num, num+2)
	case 1:
		return fmt.Sprintf("%s %s int(pod[%s])", number, relation, key())
	case 2:
		return fmt.Sprintf("%s %s %d", number, relation, num)
	case 3:
		return fmt.Sprintf("%s.name %s pod.name", who, one(r, "==", "!="))
	case 4:
		return fmt.Sprintf("%s in %s.keys", one(r, key(), `pod["zone"]`), one(r, who, "pod"))
	}
	return fmt.Sprintf(`%s[%s] %s {"%c", "%c"}`, who, key(), one(r, "in", "notin"), 'a'+rune(num), 'c')
}

// P21.1 to P21.3, P21.5, DOC.md P6: what gen makes of sources is accepted with its Depth, as a program and as bytes; its ways end; with one thing disturbed the audit accepts or refuses it.
func TestProgramsOfSources(t *testing.T) {
	r := newChance(10)
	ops := map[api.Op]int{}
	sources := []string{`true`, `false`, strings.Repeat(`!(node["a"] == "x" || `, 15) + `near("zone", it["a"] != "y")` + strings.Repeat(")", 15)}
	for range 1200 {
		sources = append(sources, r.source("node", one(r, 0, 1, 2, 4)))
	}
	for _, source := range sources {
		for _, p := range compiled(t, source) {
			got, shape := try(t, p)
			if got != (fault{}) || shape != (api.Shape{Depth: p.Depth, Steps: len(p.Code)}) {
				t.Fatalf("%s: %s: %v, %v", source, told(p), got, shape)
			}
			stacks, _ := audit.Stacks(p)
			for range 3 {
				goAlong(t, p, stacks, func() int { return r.IntN(2) })
			}
			for _, i := range p.Code {
				ops[i.Op]++
			}
			try(t, r.disturb(p))
			b, _ := code.Encode(p)
			tryAnyBytes(t, r.turn(b))
			p.Depth--
			if got, _ := try(t, p); got.code != api.ErrOver {
				t.Fatalf("%s: %s: %v", source, told(p), got)
			}
		}
	}
	for o := api.Op(1); o <= 36; o++ {
		if ops[o] == 0 && o != api.OpPop {
			t.Errorf("no program has %s", lines[o].name)
		}
	}
}

// P21.1: the greatest sources.
func TestProgramsOfGreatSources(t *testing.T) {
	var many []string
	for k := 0; len(strings.Join(many, "")) < 3100; k++ {
		many = append(many, fmt.Sprintf(`node["k%d"] %s "v%d"`, k%40, []string{"==", "!="}[k%2], k%7))
	}
	sources := []string{strings.Join(many, " || "), strings.Join(many, " && ")}
	for k := range many {
		if k%2 == 0 {
			many[k] = "(" + many[k]
		} else {
			many[k] += ")"
		}
	}
	joined := ""
	for k, each := range many[:len(many)/2*2] {
		joined += []string{" && ", " || "}[k%2] + each
	}
	sources = append(sources, strings.TrimPrefix(joined, " && "))
	for _, source := range sources {
		for _, p := range compiled(t, source) {
			if got, _ := try(t, p); got != (fault{}) {
				t.Errorf("%s: %v", told(p), got)
			}
		}
	}
}
