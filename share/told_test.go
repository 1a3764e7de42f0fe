package share_test

import (
	"fmt"
	"strings"

	"berth/api"
)

var cmpMarks = []string{"?", "==", "!=", "<", "<=", ">", ">="}

var whoNames = []string{"?", "pod", "node", "it"}

// pick is an element of a list of names; where there is none, the number.
func pick[T ~int](names []string, n T) string {
	if n < 0 || int(n) >= len(names) {
		return fmt.Sprint("?", int(n))
	}
	return names[n]
}

// toldTerm is a term as the language writes it, but that a count tells the place of its selector.
func toldTerm(t api.Term) string {
	switch t.Kind {
	case api.TermText:
		return fmt.Sprintf("%q", t.Key)
	case api.TermLabel:
		return fmt.Sprintf("%s[%q]", pick(whoNames, t.Side), t.Key)
	case api.TermName:
		return pick(whoNames, t.Side) + ".name"
	case api.TermNumber:
		return fmt.Sprintf("int(%s[%q])", pick(whoNames, t.Side), t.Key)
	case api.TermCap:
		return fmt.Sprintf("cap(%q)", t.Key)
	case api.TermCount:
		return fmt.Sprintf("count(%q, #%d)", t.Key, t.Sel)
	}
	return fmt.Sprintf("%+v", t)
}

func toldLit(l api.Lit) string {
	switch l.Kind {
	case api.LitIn:
		return fmt.Sprintf("%s in %q %d", toldTerm(l.Term), l.Texts, l.Nums)
	case api.LitRel:
		return fmt.Sprintf("%s %s %d", toldTerm(l.Term), pick(cmpMarks, l.Rel), l.Num)
	case api.LitPod:
		return fmt.Sprintf("%s %s %s", toldTerm(l.Term), pick(cmpMarks, l.Rel), toldTerm(l.Other))
	case api.LitKeys:
		return fmt.Sprintf("%s in %s.keys", toldTerm(l.Term), pick(whoNames, l.Of))
	case api.LitTaints:
		return fmt.Sprintf("%s in taints", toldTerm(l.Term))
	case api.LitTol:
		return fmt.Sprintf("tolerated(%q)", l.Key)
	case api.LitNear:
		return fmt.Sprintf("near(%q, #%d)", l.Key, l.Sel)
	}
	return fmt.Sprintf("%+v", l)
}

// toldList is a list of a plan, part by part.
func toldList(list []api.PlanPart) string {
	var out []string
	for _, part := range list {
		told := pick([]string{"?", "true", "false", "and", "or", ""}, part.Kind) + map[bool]string{true: "!"}[part.Neg]
		if part.Kind == api.PLit {
			told += toldLit(part.Lit)
		}
		out = append(out, told+toldKids(part.Kids))
	}
	return strings.Join(out, "; ")
}

func toldKids(kids []int) string {
	if len(kids) == 0 {
		return ""
	}
	return fmt.Sprint(kids)
}

// toldPlan is Main, and behind a bar each of Sels.
func toldPlan(p api.Plan) string {
	out := toldList(p.Main)
	for _, list := range p.Sels {
		out += " | " + toldList(list)
	}
	return out
}

// toldDag is a dag, part by part, those for pods with a star.
func toldDag(d api.Dag) string {
	var out []string
	for _, part := range d.Parts {
		told := map[bool]string{true: "*"}[part.Pods] + pick([]string{"?", "true", "false", "", "not", "and", "or"}, part.Kind)
		if part.Kind == api.DLit {
			told += toldLit(part.Lit)
		}
		out = append(out, told+toldKids(part.Kids))
	}
	return fmt.Sprint(strings.Join(out, "; "), "; root ", d.Root)
}

func begin(s string) string { return s[:min(len(s), 2000)] }

// short and shortDag are the beginning of a plan's text, of a dag's, for messages.
func short(p api.Plan) string { return begin(toldPlan(p)) }

func shortDag(d api.Dag) string { return begin(toldDag(d)) }
