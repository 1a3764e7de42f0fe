package parse_test

import (
	"math/rand/v2"
	"strings"
	"testing"

	"berth/lex"
)

// P12.1 to P12.3: every source of up to three tokens, and every one of up to six tokens of which only the last may be at fault.
func TestEveryShortSource(t *testing.T) {
	for _, a := range vocabulary {
		check(t, a)
		for _, b := range vocabulary {
			check(t, a+" "+b)
			for _, c := range vocabulary {
				check(t, a+" "+b+" "+c)
			}
		}
	}
	few := strings.Fields(`&& ! < ( ) [ ] { } , . true near in node name cap int "x"`)
	var grow func(source string, left int)
	grow = func(source string, left int) {
		check(t, source)
		tokens, _ := lex.Scan(source)
		if left == 0 || stands("EXPR", tokens) < len(tokens)-1 {
			return
		}
		for _, word := range few {
			grow(source+word+" ", left-1)
		}
	}
	grow("", 6)
}

// someway follows one way of each production by chance; where it is deep it takes the way that ends soonest.
func someway(r *rand.Rand, name string, deep int, out *[]string) {
	ways, production := grammar[name]
	switch {
	case !production && name == `"`:
		*out = append(*out, []string{`""`, `"a"`, `"zone"`, `"\x00\""`, `"true"`, `"("`}[r.IntN(6)])
	case !production && name == "0":
		*out = append(*out, []string{"0", "7", "-1", "999999999999999999"}[r.IntN(4)])
	case !production:
		*out = append(*out, name)
	default:
		way := ways[r.IntN(len(ways))]
		if deep <= 0 {
			way = map[string]string{"UNIT": "ATOM", "ATOM": []string{"true", "TERM BETWEEN TERM"}[r.IntN(2)], "TERM": []string{`"`, "0", `WHO [ " ]`}[r.IntN(3)]}[name]
			if way == "" {
				way = ways[0]
			}
		}
		for _, next := range strings.Fields(way) {
			someway(r, next, deep-1, out)
		}
	}
}

var blanks = []string{"", "", "", " ", " ", "\n", "\t", " # no\n", "#\n"}

// laid writes pieces one behind the other, with by chance something between them, but never two words as one.
func laid(r *rand.Rand, list []string) string {
	var b strings.Builder
	for i, piece := range list {
		between := blanks[r.IntN(len(blanks))]
		if between == "" && i > 0 {
			between = " "
			if joint, err := lex.Scan(list[i-1] + piece); err == nil && len(joint) == 3 && joint[0].End == len(list[i-1]) {
				between = ""
			}
		}
		b.WriteString(between + piece)
	}
	return b.String()
}

// P12.1, P12.2: random sources of the grammar, and with one or two tokens changed.
func TestRandomSources(t *testing.T) {
	r := rand.New(rand.NewPCG(12, 1))
	read := 0
	for range 2500 {
		var list []string
		someway(r, "EXPR", 4+r.IntN(14), &list)
		if len(list) > 400 {
			continue
		}
		source := laid(r, list)
		check(t, source)
		if _, _, f, _ := model(source); f == nil {
			read++
		}
		for range 1 + r.IntN(2) {
			i := r.IntN(len(list))
			switch r.IntN(3) {
			case 0:
				list[i] = vocabulary[r.IntN(len(vocabulary))]
			case 1:
				list = append(list[:i], append([]string{vocabulary[r.IntN(len(vocabulary))]}, list[i:]...)...)
			default:
				list[i] = ""
			}
		}
		check(t, laid(r, list))
	}
	if read < 1200 {
		t.Errorf("only %d sources were read", read)
	}
}

// P12.1: random sources of tokens that seldom fit, and of bytes.
func TestRandomTokens(t *testing.T) {
	r := rand.New(rand.NewPCG(12, 2))
	for range 5000 {
		list := make([]string, r.IntN(12))
		for i := range list {
			list[i] = vocabulary[r.IntN(len(vocabulary))]
		}
		check(t, laid(r, list))
		source := make([]byte, r.IntN(12))
		for i := range source {
			source[i] = "!(){}[],.\"ait1&|=< \n#x\xff\x00"[r.IntN(24)]
		}
		check(t, string(source))
	}
}

// P12.1: random sources near the limits of the nest, of sets and of trees.
func TestRandomLimits(t *testing.T) {
	r := rand.New(rand.NewPCG(12, 3))
	for range 300 {
		list := make([]opener, 1+r.IntN(6))
		for i := range list {
			list[i] = openers[r.IntN(len(openers))]
		}
		inside := []string{"true", "!true", "(true)", `near("a", true)`, "int(1) == 1", "1 in {" + strings.TrimSuffix(strings.Repeat("1,", 62+r.IntN(5)), ",") + "}", "x", "tolerated(\"a\")"}
		source, _ := nested(29+r.IntN(6), inside[r.IntN(len(inside))], list...)
		check(t, source)
		cut := r.IntN(len(source))
		check(t, source[:cut])
		check(t, source+[]string{" && ", " || ", " "}[r.IntN(3)]+source)
	}
	for range 200 {
		var b strings.Builder
		for b.Len() < 2500 {
			b.WriteString([]string{"true", "!1<2", "1 in {1,2,3,4,5,6,7,8,9}", "(true&&false)", "!(1<2)", "near(\"a\",1<2&&true)"}[r.IntN(6)])
			b.WriteString([]string{"&&", "||"}[r.IntN(2)])
			if r.IntN(300) == 0 {
				break
			}
		}
		check(t, b.String()+"true")
		check(t, "("+b.String()+"true)")
	}
}
