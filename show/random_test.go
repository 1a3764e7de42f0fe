package show_test

import (
	"fmt"
	"math/rand/v2"
	"strings"

	"berth/api"
)

var someTexts = []string{"", "a", "b", "zone", "true", `"`, `\`, "\x00\xff", " && ", "node", "a\nb", "\u00e9", "x#y"}

func someText(r *rand.Rand) string {
	if r.IntN(20) == 0 {
		b := make([]byte, r.IntN(128))
		for i := range b {
			b[i] = byte(r.IntN(256))
		}
		return string(b)
	}
	return someTexts[r.IntN(len(someTexts))]
}

func someNumber(r *rand.Rand) int {
	return []int{0, 1, -1, r.IntN(100), -r.IntN(1000000), greatest, -greatest}[r.IntN(7)]
}

// someCondition is a condition by chance, the smaller the less deep it may be.
func someCondition(r *rand.Rand, deep int) twig {
	kinds := 12
	if deep <= 0 {
		kinds = 5
	}
	switch r.IntN(kinds) {
	case 0:
		return yes
	case 1:
		return no
	case 2:
		return tolerated(someText(r))
	case 3:
		return cmp(someTerm(r, deep-1), api.Cmp(1+r.IntN(6)), someTerm(r, deep-1))
	case 4:
		return of(api.KIn, "", r.IntN(2), someTerm(r, deep-1), someTerm(r, deep-1))
	case 5, 6:
		return not(someCondition(r, deep-1))
	case 7:
		return of([]api.Kind{api.KNear, api.KApart}[r.IntN(2)], someText(r), 0, someCondition(r, deep-1))
	}
	kids := make([]twig, 2+r.IntN(2)*r.IntN(3))
	for i := range kids {
		kids[i] = someCondition(r, deep-1-r.IntN(2))
	}
	return of([]api.Kind{api.KAnd, api.KOr}[r.IntN(2)], "", 0, kids...)
}

func someTerm(r *rand.Rand, deep int) twig {
	kinds := 10
	if deep <= 0 {
		kinds = 7
	}
	side := 1 + r.IntN(3)
	switch r.IntN(kinds) {
	case 0:
		return text(someText(r))
	case 1:
		return num(someNumber(r))
	case 2:
		return label(side, someText(r))
	case 3:
		return of([]api.Kind{api.KName, api.KKeys, api.KTaints}[r.IntN(3)], "", side)
	case 4:
		return capacity(side, someText(r))
	case 5, 6:
		kids := make([]twig, r.IntN(4))
		for i := range kids {
			kids[i] = []twig{text(someText(r)), num(someNumber(r))}[r.IntN(2)]
		}
		return set(kids...)
	case 7:
		return count(someText(r), someCondition(r, deep-1))
	}
	return integer(someTerm(r, deep-1))
}

// scribe writes one of the many sources of a tree, with groups, blanks and escapes that its text doesn't have; it keeps the greatest nest of a place.
type scribe struct {
	r        *rand.Rand
	groups   int // one out of so many conditions stands in a group for nothing
	greatest int
}

func (s *scribe) blank() string {
	return []string{"", "", "", " ", "\n", "\t \r", " # no ) \" &\n", "#\n"}[s.r.IntN(8)]
}

// join lays pieces one behind the other with blanks between them.
func (s *scribe) join(pieces ...string) string {
	return strings.Join(pieces, s.blank())
}

func (s *scribe) quote(text string) string {
	out := `"`
	for i := range len(text) {
		switch b := text[i]; {
		case s.r.IntN(4) == 0:
			out += fmt.Sprintf(`\x%02X`, b)
		case b < 0x20 || b == '"' || b == '\\':
			out += fmt.Sprintf(`\x%02x`, b)
		default:
			out += string([]byte{b})
		}
	}
	return out + `"`
}

// condition is one that stands where only what ties at least so strongly may stand without a group.
func (s *scribe) condition(w twig, least, nest int) string {
	s.greatest = max(s.greatest, nest)
	if strength(w.part.Kind) < least || s.r.IntN(s.groups) == 0 {
		return s.join("(", s.condition(w, 0, nest+1), ")")
	}
	switch w.part.Kind {
	case api.KTrue, api.KFalse:
		return map[api.Kind]string{api.KTrue: "true", api.KFalse: "false"}[w.part.Kind]
	case api.KNot:
		return s.join("!", s.condition(w.kids[0], 3, nest+1))
	case api.KAnd, api.KOr:
		var pieces []string
		for i, kid := range w.kids {
			if i > 0 {
				pieces = append(pieces, map[api.Kind]string{api.KAnd: "&&", api.KOr: "||"}[w.part.Kind])
			}
			pieces = append(pieces, s.condition(kid, strength(w.part.Kind)+1, nest))
		}
		return s.join(pieces...)
	case api.KCmp:
		return s.join(s.term(w.kids[0], nest), []string{"==", "!=", "<", "<=", ">", ">="}[w.part.Num-1], s.term(w.kids[1], nest))
	case api.KIn:
		return s.join(s.term(w.kids[0], nest)+" ", []string{"in", "notin"}[w.part.Num], " "+s.term(w.kids[1], nest))
	case api.KTolerated:
		return s.join("tolerated", "(", s.quote(w.part.Text), ")")
	}
	return s.selection(map[api.Kind]string{api.KNear: "near", api.KApart: "apart"}[w.part.Kind], w, nest)
}

func (s *scribe) selection(word string, w twig, nest int) string {
	return s.join(word, "(", s.quote(w.part.Text), ",", s.condition(w.kids[0], 0, nest+1), ")")
}

func (s *scribe) term(w twig, nest int) string {
	s.greatest = max(s.greatest, nest)
	who := []string{"", "pod", "node", "it"}[max(0, min(w.part.Num, 3))]
	switch w.part.Kind {
	case api.KText:
		return s.quote(w.part.Text)
	case api.KNum:
		return fmt.Sprint(w.part.Num)
	case api.KSet:
		var pieces []string
		for i, kid := range w.kids {
			if i > 0 {
				pieces = append(pieces, ",")
			}
			pieces = append(pieces, s.term(kid, nest))
		}
		return s.join("{", s.join(pieces...), "}")
	case api.KLabel:
		return s.join(who, "[", s.quote(w.part.Text), "]")
	case api.KCap:
		return s.join(who, ".", "cap", "(", s.quote(w.part.Text), ")")
	case api.KInt:
		return s.join("int", "(", s.term(w.kids[0], nest+1), ")")
	case api.KCount:
		return s.selection("count", w, nest)
	}
	return s.join(who, ".", map[api.Kind]string{api.KName: "name", api.KKeys: "keys", api.KTaints: "taints"}[w.part.Kind])
}
