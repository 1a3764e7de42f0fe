package show

import (
	"strconv"
	"strings"

	"berth/api"
	"berth/lex"
)

// textOf is the text of a valid tree, if it isn't too long. Each part's text stands in the whole's, so the first one that is too long ends the work.
func textOf(parts []api.Part) (string, bool) {
	texts := make([]string, len(parts))
	for i, part := range parts {
		texts[i] = conditionText(part, kidTexts(parts, texts, part))
		if len(texts[i]) > api.MaxSource {
			return "", false
		}
	}
	return texts[len(texts)-1], true
}

// kidTexts are the texts of a part's kids as they stand in its own.
func kidTexts(parts []api.Part, texts []string, part api.Part) []string {
	kids := make([]string, len(part.Kids))
	for i, kid := range part.Kids {
		kids[i] = texts[kid]
		if grouped(part.Kind, parts[kid].Kind) {
			kids[i] = write("(", kids[i], ")")
		}
	}
	return kids
}

// write puts pieces, any number of them, one behind the other.
func write(pieces ...string) string { return strings.Join(pieces, "") }

// call is a word with what stands in the parentheses behind it.
func call(word string, inside ...string) string {
	return write(word, "(", strings.Join(inside, ", "), ")")
}

func conditionText(part api.Part, kids []string) string {
	switch part.Kind {
	case api.KTrue:
		return "true"
	case api.KFalse:
		return "false"
	case api.KNot:
		return write("!", kids[0])
	case api.KAnd:
		return strings.Join(kids, " && ")
	case api.KOr:
		return strings.Join(kids, " || ")
	case api.KCmp:
		return write(kids[0], " ", comparison(api.Cmp(part.Num)), " ", kids[1])
	case api.KIn:
		return write(kids[0], " ", membership(part.Num), " ", kids[1])
	case api.KNear:
		return call("near", lex.Quote(part.Text), kids[0])
	case api.KApart:
		return call("apart", lex.Quote(part.Text), kids[0])
	case api.KTolerated:
		return call("tolerated", lex.Quote(part.Text))
	}
	return termText(part, kids)
}

func termText(part api.Part, kids []string) string {
	switch part.Kind {
	case api.KText:
		return lex.Quote(part.Text)
	case api.KNum:
		return strconv.Itoa(part.Num)
	case api.KSet:
		return write("{", strings.Join(kids, ", "), "}")
	case api.KInt:
		return call("int", kids[0])
	case api.KCount:
		return call("count", lex.Quote(part.Text), kids[0])
	}
	return askedText(part, who(api.Side(part.Num)))
}

// askedText is what is asked of a node or a pod.
func askedText(part api.Part, who string) string {
	switch part.Kind {
	case api.KLabel:
		return write(who, "[", lex.Quote(part.Text), "]")
	case api.KName:
		return write(who, ".name")
	case api.KKeys:
		return write(who, ".keys")
	case api.KTaints:
		return write(who, ".taints")
	case api.KCap:
		return call(write(who, ".cap"), lex.Quote(part.Text))
	}
	return ""
}

func who(side api.Side) string {
	switch side {
	case api.OfPod:
		return "pod"
	case api.OfNode:
		return "node"
	case api.OfIt:
		return "it"
	}
	return ""
}

func comparison(cmp api.Cmp) string {
	switch cmp {
	case api.CmpEq:
		return "=="
	case api.CmpNe:
		return "!="
	case api.CmpLt:
		return "<"
	case api.CmpLe:
		return "<="
	case api.CmpGt:
		return ">"
	case api.CmpGe:
		return ">="
	}
	return ""
}

// membership of a KIn's Num.
func membership(num int) string {
	if num == 1 {
		return "notin"
	}
	return "in"
}
