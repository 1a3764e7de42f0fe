package merge_test

import (
	"fmt"
	"strings"

	"berth/api"
)

var cmpMarks = []string{"?", "==", "!=", "<", "<=", ">", ">="}

var whoNames = []string{"?", "pod", "node", "it"}

// toldTerm is a term as the language writes it, but that a count tells the place of its selector.
func toldTerm(t api.Term) string {
	switch t.Kind {
	case api.TermText:
		return fmt.Sprintf("%q", t.Key)
	case api.TermLabel:
		return fmt.Sprintf("%s[%q]", whoNames[t.Side], t.Key)
	case api.TermName:
		return whoNames[t.Side] + ".name"
	case api.TermNumber:
		return fmt.Sprintf("int(%s[%q])", whoNames[t.Side], t.Key)
	case api.TermCap:
		return fmt.Sprintf("cap(%q)", t.Key)
	case api.TermCount:
		return fmt.Sprintf("count(%q, #%d)", t.Key, t.Sel)
	}
	return fmt.Sprintf("%+v", t)
}

func toldLit(l api.Lit) string {
	switch l.Kind {
	case api.LitIn:
		if isText(l.Term) {
			return fmt.Sprintf("%s in %q", toldTerm(l.Term), l.Texts)
		}
		return fmt.Sprintf("%s in %d", toldTerm(l.Term), l.Nums)
	case api.LitRel:
		return fmt.Sprintf("%s %s %d", toldTerm(l.Term), cmpMarks[l.Rel], l.Num)
	case api.LitPod:
		return fmt.Sprintf("%s %s %s", toldTerm(l.Term), cmpMarks[l.Rel], toldTerm(l.Other))
	case api.LitKeys:
		return fmt.Sprintf("%s in %s.keys", toldTerm(l.Term), whoNames[l.Of])
	case api.LitTaints:
		return fmt.Sprintf("%s in taints", toldTerm(l.Term))
	case api.LitTol:
		return fmt.Sprintf("tolerated(%q)", l.Key)
	case api.LitNear:
		return fmt.Sprintf("near(%q, #%d)", l.Key, l.Sel)
	}
	return fmt.Sprintf("%+v", l)
}

// toldList is a list of a plan, part by part.
func toldList(list []api.PlanPart) string {
	var out []string
	for _, part := range list {
		switch part.Kind {
		case api.PTrue:
			out = append(out, "true")
		case api.PFalse:
			out = append(out, "false")
		case api.PAnd:
			out = append(out, fmt.Sprint("and", part.Kids))
		case api.POr:
			out = append(out, fmt.Sprint("or", part.Kids))
		default:
			sign := map[bool]string{true: "!"}[part.Neg]
			out = append(out, sign+toldLit(part.Lit))
		}
	}
	return strings.Join(out, "; ")
}

// toldPlan is Main, and behind a bar each of Sels.
func toldPlan(p api.Plan) string {
	out := toldList(p.Main)
	for _, list := range p.Sels {
		out += " | " + toldList(list)
	}
	return out
}

// short is the beginning of a plan's text, for messages.
func short(p api.Plan) string {
	s := toldPlan(p)
	return s[:min(len(s), 2000)]
}
