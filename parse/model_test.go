package parse_test

import (
	"slices"
	"strings"
	"testing"

	"berth/api"
	"berth/lex"
	"berth/parse"
)

// grammar is DOC.md's, every way of each production written out: names in capitals are productions, the others tokens (" a text, 0 a number).
var grammar = map[string][]string{
	"EXPR":     {"CONJ ORS"},
	"ORS":      {"", "|| CONJ ORS"},
	"CONJ":     {"UNIT ANDS"},
	"ANDS":     {"", "&& UNIT ANDS"},
	"UNIT":     {"! UNIT", "( EXPR )", "ATOM"},
	"ATOM":     {"true", "false", `near ( " , EXPR )`, `apart ( " , EXPR )`, `tolerated ( " )`, "TERM BETWEEN TERM"},
	"BETWEEN":  {"==", "!=", "<", "<=", ">", ">=", "in", "notin"},
	"TERM":     {`"`, "0", "SET", `WHO [ " ]`, "WHO . FIELD", "int ( TERM )", `count ( " , EXPR )`},
	"WHO":      {"node", "pod", "it"},
	"FIELD":    {"name", "keys", "taints", `cap ( " )`},
	"SET":      {"{ }", "{ ELEMENT ELEMENTS }"},
	"ELEMENTS": {"", ", ELEMENT ELEMENTS"},
	"ELEMENT":  {`"`, "0"},
}

// hope is what must still come for a source to end well.
type hope struct {
	first string
	rest  *hope
}

// ways are the grammar's, cut into their names.
var ways = func() map[string][][]string {
	out := map[string][][]string{}
	for name, list := range grammar {
		for _, way := range list {
			out[name] = append(out[name], strings.Fields(way))
		}
	}
	return out
}()

// behind: the hopes that are left, if one is followed by each way of its productions, till a token of that name stands first.
func behind(h *hope, token string, left []*hope) []*hope {
	list, production := ways[h.first]
	if !production && h.first == token {
		return append(left, h.rest)
	}
	for _, way := range list {
		if len(way) > 0 && way[0] != token && ways[way[0]] == nil {
			continue
		}
		next := h.rest
		for _, name := range slices.Backward(way) {
			next = &hope{name, next}
		}
		left = behind(next, token, left)
	}
	return left
}

// distinct: hopes that are alike from top to bottom, once.
func distinct(list []*hope) []*hope {
	var out []*hope
	for _, h := range list {
		if !slices.ContainsFunc(out, func(o *hope) bool { return alike(o, h) }) {
			out = append(out, h)
		}
	}
	return out
}

func alike(a, b *hope) bool {
	for a != b {
		if a == nil || b == nil || a.first != b.first {
			return false
		}
		a, b = a.rest, b.rest
	}
	return true
}

const endName = "END"

func nameOf(token api.Token) string {
	switch token.Kind {
	case api.TokenText:
		return `"`
	case api.TokenNum:
		return "0"
	case api.TokenEnd:
		return endName
	}
	return token.Text
}

// stands: how many tokens can stand there, from the first on, one behind the other, in a source of the production.
func stands(production string, tokens []api.Token) int {
	hopes := []*hope{{production, &hope{endName, nil}}}
	for i, token := range tokens {
		var left []*hope
		for _, h := range hopes {
			left = behind(h, nameOf(token), left)
		}
		if len(left) == 0 {
			return i
		}
		hopes = distinct(left)
	}
	return len(tokens)
}

// opened goes over tokens that can stand there: the greatest nest of a place, and the first token that is over a limit (or how many there are).
func opened(tokens []api.Token) (greatest, over int, code api.Errno) {
	var open []string // what isn't closed, "!" and "(" that count and "[" for those that don't
	elements := 0
	for i, token := range tokens {
		nest := 0
		switch name := nameOf(token); name {
		case "!":
			open = append(open, "!")
		case "(", "[", "{":
			if name == "(" && i > 0 && (nameOf(tokens[i-1]) == "tolerated" || nameOf(tokens[i-1]) == "cap") {
				name = "["
			}
			open, elements = append(open, name), 0
		case "&&", "||", ")", "]", "}":
			for len(open) > 0 && open[len(open)-1] == "!" {
				open = open[:len(open)-1]
			}
			if strings.Contains(")]}", name) {
				open = open[:len(open)-1]
			}
		case `"`, "0":
			elements++
			if elements > 64 && len(open) > 0 && open[len(open)-1] == "{" {
				return greatest, i, api.ErrSetLong
			}
		}
		for _, name := range open {
			if name == "!" || name == "(" {
				nest++
			}
		}
		if nest > 32 {
			return greatest, i, api.ErrNest
		}
		greatest = max(greatest, nest)
	}
	return greatest, len(tokens), 0
}

// twig is a part with its kids.
type twig struct {
	part   api.Part
	offset int
	kids   []*twig
}

// split cuts tokens at those of the names that stand in no bracket.
func split(tokens []api.Token, names ...string) (pieces [][]api.Token, first api.Token) {
	deep, from := 0, 0
	for i, token := range tokens {
		name := nameOf(token)
		switch {
		case strings.Contains("([{", name):
			deep++
		case strings.Contains(")]}", name):
			deep--
		case deep == 0 && slices.Contains(names, name):
			if pieces = append(pieces, tokens[from:i]); len(pieces) == 1 {
				first = token
			}
			from = i + 1
		}
	}
	return append(pieces, tokens[from:]), first
}

// grown is the twig of tokens that are a condition or a term: cut where its weakest tie is.
func grown(tokens []api.Token) *twig {
	for _, tie := range []struct {
		name string
		kind api.Kind
	}{{"||", api.KOr}, {"&&", api.KAnd}} {
		if pieces, first := split(tokens, tie.name); len(pieces) > 1 {
			return joined(api.Part{Kind: tie.kind}, first.At, pieces...)
		}
	}
	inner := tokens[1 : len(tokens)-min(1, len(tokens)-1)]
	switch nameOf(tokens[0]) {
	case "!":
		return joined(api.Part{Kind: api.KNot}, tokens[0].At, tokens[1:])
	case "(":
		return grown(inner)
	}
	comparisons := []string{"==", "!=", "<", "<=", ">", ">="}
	if pieces, first := split(tokens, comparisons...); len(pieces) > 1 {
		return joined(api.Part{Kind: api.KCmp, Num: 1 + slices.Index(comparisons, first.Text)}, first.At, pieces...)
	}
	members := []string{"in", "notin"}
	if pieces, first := split(tokens, members...); len(pieces) > 1 {
		return joined(api.Part{Kind: api.KIn, Num: slices.Index(members, first.Text)}, first.At, pieces...)
	}
	return grownAlone(tokens, inner)
}

// grownAlone is the twig of tokens that no mark between them ties.
func grownAlone(tokens, inner []api.Token) *twig {
	first := tokens[0]
	switch name := nameOf(first); name {
	case `"`:
		return joined(api.Part{Kind: api.KText, Text: first.Text}, first.At)
	case "0":
		return joined(api.Part{Kind: api.KNum, Num: first.Num}, first.At)
	case "{":
		var elements [][]api.Token
		if len(inner) > 0 {
			elements, _ = split(inner, ",")
		}
		return joined(api.Part{Kind: api.KSet}, first.At, elements...)
	case "true", "false":
		return joined(api.Part{Kind: map[string]api.Kind{"true": api.KTrue, "false": api.KFalse}[name]}, first.At)
	case "near", "apart", "count":
		kind := map[string]api.Kind{"near": api.KNear, "apart": api.KApart, "count": api.KCount}[name]
		return joined(api.Part{Kind: kind, Text: tokens[2].Text}, first.At, inner[3:])
	case "tolerated":
		return joined(api.Part{Kind: api.KTolerated, Text: tokens[2].Text}, first.At)
	case "int":
		return joined(api.Part{Kind: api.KInt}, first.At, inner[1:])
	}
	side := map[string]int{"pod": 1, "node": 2, "it": 3}[first.Text]
	if nameOf(tokens[1]) == "[" {
		return joined(api.Part{Kind: api.KLabel, Num: side, Text: tokens[2].Text}, first.At)
	}
	part := api.Part{Kind: map[string]api.Kind{"name": api.KName, "keys": api.KKeys, "taints": api.KTaints, "cap": api.KCap}[tokens[2].Text], Num: side}
	if len(tokens) > 3 {
		part.Text = tokens[4].Text
	}
	return joined(part, first.At)
}

func joined(part api.Part, offset int, pieces ...[]api.Token) *twig {
	w := &twig{part: part, offset: offset}
	for _, piece := range pieces {
		w.kids = append(w.kids, grown(piece))
	}
	return w
}

// written is the twig's parts in postorder, with their offsets.
func written(w *twig, tree api.Tree, offsets []int) (api.Tree, []int) {
	part := w.part
	for _, kid := range w.kids {
		tree, offsets = written(kid, tree, offsets)
		part.Kids = append(part.Kids, len(tree.Parts)-1)
	}
	tree.Parts = append(tree.Parts, part)
	return tree, append(offsets, w.offset)
}

func wrong(code api.Errno, at int) *api.Fault { return &api.Fault{Code: code, At: at} }

// model: what Parse must answer, and the greatest nest of a place where it answers a tree.
func model(source string) (api.Tree, []int, *api.Fault, int) {
	tokens, err := lex.Scan(source)
	if err != nil {
		return api.Tree{}, nil, err.(*api.Fault), 0
	}
	n := stands("EXPR", tokens)
	greatest, over, code := opened(tokens[:n])
	switch {
	case over < n:
		return api.Tree{}, nil, wrong(code, tokens[over].At), 0
	case n == len(tokens)-1:
		return api.Tree{}, nil, wrong(api.ErrEnd, len(source)), 0
	case n < len(tokens):
		return api.Tree{}, nil, wrong(api.ErrToken, tokens[n].At), 0
	}
	tree, offsets := written(grown(tokens[:len(tokens)-1]), api.Tree{}, nil)
	if len(offsets) > 1000 {
		return api.Tree{}, nil, wrong(api.ErrLarge, offsets[1000]), 0
	}
	return tree, offsets, nil, greatest
}

func sameTree(a, b api.Tree) bool {
	return slices.EqualFunc(a.Parts, b.Parts, func(x, y api.Part) bool {
		return x.Kind == y.Kind && x.Text == y.Text && x.Num == y.Num && slices.Equal(x.Kids, y.Kids)
	})
}

// sameFault: whether an error is nil where none is wanted, else a *api.Fault of its own just as the wanted one.
func sameFault(err error, want *api.Fault) bool {
	if want == nil || err == nil {
		return err == nil && want == nil
	}
	f, ok := err.(*api.Fault)
	return ok && f != nil && *f == *want
}

func show(source string) string {
	if len(source) > 120 {
		return source[:120] + ".."
	}
	return source
}

// expect holds an answer against what is wanted; beside a fault nothing may stand.
func expect(t *testing.T, source string, want api.Tree, places []int, f *api.Fault) {
	t.Helper()
	tree, offsets, err := parse.Parse(source)
	if !sameTree(tree, want) || !slices.Equal(offsets, places) || !sameFault(err, f) {
		t.Fatalf("Parse(%q)\n  = %s, %v\nwant %s, %v", show(source), told(tree, offsets), err, told(want, places), f)
	}
}

// check holds an answer against the model, and against what the promises say of every answer.
func check(t *testing.T, source string) {
	t.Helper()
	tree, offsets, f, greatest := model(source)
	expect(t, source, tree, offsets, f)
	if f != nil {
		if f.At < 0 || f.At > len(source) {
			t.Fatalf("Parse(%q): a fault at %d", show(source), f.At)
		}
		return
	}
	tree, _, _ = parse.Parse(source)
	checkValid(t, source, tree)
	if n := slices.Max(nests(tree)); n > greatest || n > 32 {
		t.Fatalf("Parse(%q): a part's nest is %d, the greatest of a place %d", show(source), n, greatest)
	}
}
