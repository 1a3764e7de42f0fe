package share

import (
	"strconv"
	"strings"

	"berth/api"
)

// likeness is all that a part has, in a form that can be compared: two parts are alike just if theirs are equal.
type likeness struct {
	kind              api.DagKind
	pods              bool
	lit               api.LitKind
	term, other       api.Term
	rel               api.Cmp
	num               int
	of                api.Side
	key               string
	sel               int
	texts, nums, kids string // the lists, told
}

func likenessOf(part api.DagPart) likeness {
	l := part.Lit
	return likeness{
		kind: part.Kind, pods: part.Pods,
		lit: l.Kind, term: l.Term, other: l.Other, rel: l.Rel, num: l.Num, of: l.Of, key: l.Key, sel: l.Sel,
		texts: toldTexts(l.Texts), nums: toldNumbers(l.Nums), kids: toldNumbers(part.Kids),
	}
}

// toldTexts tells each text behind its length: so it is seen where it ends, whatever stands in it.
func toldTexts(list []string) string {
	var told strings.Builder
	for _, text := range list {
		told.WriteString(strconv.Itoa(len(text)))
		told.WriteByte(' ')
		told.WriteString(text)
	}
	return told.String()
}

func toldNumbers(list []int) string {
	var told strings.Builder
	for _, n := range list {
		told.WriteString(strconv.Itoa(n))
		told.WriteByte(' ')
	}
	return told.String()
}
