package merge

import (
	"strconv"
	"strings"

	"berth/api"
)

// teller writes numbers and texts so that it is seen where each of them ends: what is unlike is told otherwise.
type teller struct{ told strings.Builder }

func (t *teller) number(n int) {
	t.told.WriteString(strconv.Itoa(n))
	t.told.WriteByte(' ')
}

func (t *teller) text(s string) {
	t.number(len(s))
	t.told.WriteString(s)
}

func (t *teller) term(term api.Term) {
	t.number(int(term.Kind))
	t.number(int(term.Side))
	t.text(term.Key)
	t.number(term.Sel)
}

// toldJunction tells a part with kids, or a constant, by the kids' numbers.
func toldJunction(kind api.PlanKind, kids []*piece) string {
	var t teller
	t.number(int(kind))
	for _, kid := range kids {
		t.number(kid.number)
	}
	return t.told.String()
}

// toldLit tells all that a literal has but its sign. (Its term says whether it has texts or numbers.)
func toldLit(l api.Lit) string {
	var t teller
	t.number(int(api.PLit))
	t.number(int(l.Kind))
	t.term(l.Term)
	t.number(int(l.Rel))
	t.number(l.Num)
	t.term(l.Other)
	t.number(int(l.Of))
	t.text(l.Key)
	t.number(l.Sel)
	for _, text := range l.Texts {
		t.text(text)
	}
	for _, n := range l.Nums {
		t.number(n)
	}
	return t.told.String()
}
