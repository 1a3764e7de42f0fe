package norm_test

import (
	"fmt"
	"strings"
	"testing"

	"berth/api"
)

// nots is a condition below so many negations.
func nots(n int, w twig) twig {
	for range n {
		w = not(w)
	}
	return w
}

// P16.2, P16.4: each kind of condition under no negation, under an odd and an even number of them.
func TestSigns(t *testing.T) {
	a, b := equal(label(node, "a"), text("x")), cmp(integer(label(node, "n")), api.CmpGe, num(3))
	for _, x := range []struct {
		w               twig
		plain, opposite string
	}{
		{yes, `true`, `false`},
		{no, `false`, `true`},
		{a, `node["a"] in ["x"]`, `!node["a"] in ["x"]`},
		{cmp(label(node, "a"), api.CmpNe, text("x")), `!node["a"] in ["x"]`, `node["a"] in ["x"]`},
		{b, `int(node["n"]) >= 3`, `!int(node["n"]) >= 3`},
		{in(name(node), set(text("x"))), `node.name in ["x"]`, `!node.name in ["x"]`},
		{notin(name(node), set(text("x"))), `!node.name in ["x"]`, `node.name in ["x"]`},
		{in(text("x"), keys(node)), `"x" in node.keys`, `!"x" in node.keys`},
		{notin(text("x"), taints(node)), `!"x" in taints`, `"x" in taints`},
		{equal(label(node, "a"), name(pod)), `node["a"] == pod.name`, `!node["a"] == pod.name`},
		{near("z", yes), `near("z", #0) | true`, `!near("z", #0) | true`},
		{apart("z", yes), `!near("z", #0) | true`, `near("z", #0) | true`},
		{near("z", no), `false`, `true`},
		{apart("z", no), `true`, `false`},
		{tolerated("NoSchedule"), `tolerated("NoSchedule")`, `!tolerated("NoSchedule")`},
		{and(a, b), `node["a"] in ["x"]; int(node["n"]) >= 3; and[0 1]`, `!node["a"] in ["x"]; !int(node["n"]) >= 3; or[0 1]`},
		{or(a, b), `node["a"] in ["x"]; int(node["n"]) >= 3; or[0 1]`, `!node["a"] in ["x"]; !int(node["n"]) >= 3; and[0 1]`},
		{and(a, not(b), a), `node["a"] in ["x"]; !int(node["n"]) >= 3; node["a"] in ["x"]; and[0 1 2]`, `!node["a"] in ["x"]; int(node["n"]) >= 3; !node["a"] in ["x"]; or[0 1 2]`},
		{asked(count("z", not(and(equal(name(it), text("p")), yes)))), `count("z", #0) >= 1 | !it.name in ["p"]`, `!count("z", #0) >= 1 | !it.name in ["p"]`},
	} {
		for n := range 6 {
			expectTree(t, list(nots(n, x.w)), api.OfNode, []string{x.plain, x.opposite}[n%2])
		}
		expectTree(t, list(nots(25, x.w)), api.OfNode, x.opposite)
	}
}

var marks = map[api.Cmp]string{1: "==", 2: "!=", 3: "<", 4: "<=", 5: ">", 6: ">="}

// P16.2: each comparison of a number with the constant on the right and on the left, as a number and as int of a text.
func TestComparisonsWithANumber(t *testing.T) {
	terms := map[string]string{`int(node["n"])`: `int(node["n"])`, `int(pod["n"])`: `int(pod["n"])`, `node.cap("cpu")`: `cap("cpu")`, `count("z", true)`: `count("z", #0)`}
	right := map[string]string{"==": "%s in [5]", "!=": "!%s in [5]", "<": "%s <= 4", "<=": "%s <= 5", ">": "%s >= 6", ">=": "%s >= 5"}
	left := map[string]string{"==": "%s in [5]", "!=": "!%s in [5]", "<": "%s >= 6", "<=": "%s >= 5", ">": "%s <= 4", ">=": "%s <= 5"}
	for term, told := range terms {
		for _, mark := range marks {
			for _, five := range []string{`5`, `int("5")`} {
				tail := ""
				if strings.HasPrefix(term, "count") {
					tail = " | true"
				}
				expect(t, term+" "+mark+" "+five, api.OfNode, fmt.Sprintf(right[mark], told)+tail)
				expect(t, five+" "+mark+" "+term, api.OfNode, fmt.Sprintf(left[mark], told)+tail)
			}
		}
	}
	expect(t, `int(it["n"]) < -7`, api.OfIt, `int(it["n"]) <= -8`)
	expect(t, `-7 <= int(it["n"])`, api.OfIt, `int(it["n"]) >= -7`)
}

// P16.2: a text with the constant on either side.
func TestComparisonsWithAText(t *testing.T) {
	for _, term := range []string{`node["a"]`, `pod["a"]`, `node.name`, `pod.name`} {
		for _, word := range []string{"x", "", "7", `\x00\xff`} {
			told := fmt.Sprintf(`%s in ["%s"]`, term, word)
			expect(t, term+` == "`+word+`"`, api.OfNode, told)
			expect(t, `"`+word+`" == `+term, api.OfNode, told)
			expect(t, term+` != "`+word+`"`, api.OfNode, "!"+told)
			expect(t, `"`+word+`" != `+term, api.OfNode, "!"+told)
		}
	}
	expect(t, `"x" == it.name`, api.OfIt, `it.name in ["x"]`)
}

// P16.2, L1, L7: both sides are constants: what it is worth, with the sign.
func TestComparisonsOfConstants(t *testing.T) {
	holds := map[string][3]bool{ // below, at, above
		"==": {false, true, false}, "!=": {true, false, true}, "<": {true, false, false}, "<=": {true, true, false}, ">": {false, false, true}, ">=": {false, true, true},
	}
	for mark, want := range holds {
		for i, pair := range [][2]string{{"-1", "0"}, {"3", "3"}, {"10", "9"}} {
			for _, left := range []string{pair[0], `int("` + pair[0] + `")`} {
				for _, right := range []string{pair[1], `int("` + pair[1] + `")`} {
					expect(t, left+" "+mark+" "+right, api.OfNode, fmt.Sprint(want[i]))
					expect(t, "!"+left+" "+mark+" "+right, api.OfIt, fmt.Sprint(!want[i]))
				}
			}
		}
		for _, none := range []string{`"x"`, `""`, `"07"`, `"-0"`, `"+1"`, `" 1"`, `"1.0"`, `"1234567890123456"`} {
			for _, other := range []string{"0", `int("0")`, `int("7")`, `int(` + none + `)`} {
				expect(t, `int(`+none+`) `+mark+" "+other, api.OfNode, fmt.Sprint(mark == "!="))
				expect(t, other+" "+mark+` int(`+none+`)`, api.OfNode, fmt.Sprint(mark == "!="))
			}
		}
	}
	expect(t, `"a" == "a"`, api.OfNode, "true")
	expect(t, `"a" != "a"`, api.OfNode, "false")
	expect(t, `"a" == "A"`, api.OfNode, "false")
	expect(t, `"" != "a"`, api.OfNode, "true")
	expect(t, `int("123456789012345") == 123456789012345`, api.OfNode, "true")
	expect(t, `int("-123456789012345") == -123456789012345`, api.OfNode, "true")
}

// P16.2, L1: one side is a constant that is undefined.
func TestComparisonsWithTheUndefined(t *testing.T) {
	for _, term := range []string{`int(node["n"])`, `int(pod["n"])`, `node.cap("cpu")`, `count("z", true)`} {
		for _, mark := range marks {
			for _, none := range []string{`int("x")`, `int("")`, `int("01")`} {
				want := mark == "!="
				expect(t, term+" "+mark+" "+none, api.OfNode, fmt.Sprint(want))
				expect(t, none+" "+mark+" "+term, api.OfNode, fmt.Sprint(want))
				expect(t, "!"+none+" "+mark+" "+term, api.OfNode, fmt.Sprint(!want))
			}
		}
	}
}

// P16.2: terms on both sides, of each pair of sides.
func TestComparisonsOfTerms(t *testing.T) {
	round := map[string]string{"==": "==", "<": ">", "<=": ">=", ">": "<", ">=": "<="}
	for _, term := range [][2]string{{`int(node["n"])`, `int(node["n"])`}, {`node.cap("cpu")`, `cap("cpu")`}, {`count("z", true)`, `count("z", #0)`}} {
		tail := ""
		if strings.HasPrefix(term[0], "count") {
			tail = " | true"
		}
		for mark, other := range round {
			expect(t, term[0]+" "+mark+` int(pod["m"])`, api.OfNode, term[1]+" "+mark+` int(pod["m"])`+tail)
			expect(t, `int(pod["m"]) `+mark+" "+term[0], api.OfNode, term[1]+" "+other+` int(pod["m"])`+tail)
		}
		expect(t, `int(pod["m"]) != `+term[0], api.OfNode, "!"+term[1]+` == int(pod["m"])`+tail)
		expect(t, term[0]+` != int(pod["m"])`, api.OfNode, "!"+term[1]+` == int(pod["m"])`+tail)
	}
	for mark, other := range round {
		for _, scope := range []api.Side{api.OfNode, api.OfIt} {
			expect(t, `int(pod["a"]) `+mark+` int(pod["b"])`, scope, `int(pod["a"]) `+mark+` int(pod["b"])`)
		}
		expect(t, `int(it["a"]) `+mark+` int(pod["b"])`, api.OfIt, `int(it["a"]) `+mark+` int(pod["b"])`)
		expect(t, `int(pod["b"]) `+mark+` int(it["a"])`, api.OfIt, `int(it["a"]) `+other+` int(pod["b"])`)
	}
	for _, moving := range []string{`node["a"]`, `node.name`} {
		for _, ofPod := range []string{`pod["b"]`, `pod.name`} {
			expect(t, moving+" == "+ofPod, api.OfNode, moving+" == "+ofPod)
			expect(t, ofPod+" == "+moving, api.OfNode, moving+" == "+ofPod)
			expect(t, ofPod+" != "+moving, api.OfNode, "!"+moving+" == "+ofPod)
		}
	}
	expect(t, `pod.name == pod["b"]`, api.OfNode, `pod.name == pod["b"]`)
	expect(t, `pod["b"] != pod.name`, api.OfNode, `!pod["b"] == pod.name`)
	expect(t, `pod["b"] == pod["b"]`, api.OfNode, `pod["b"] == pod["b"]`)
	expect(t, `pod.name == it.name`, api.OfIt, `it.name == pod.name`)
}

// P16.2: membership of both signs in sets.
func TestMembershipInSets(t *testing.T) {
	for _, x := range []struct{ source, want string }{
		{`node["a"] in {"b", "a", "b", "", "B"}`, `node["a"] in ["" "B" "a" "b"]`},
		{`node["a"] in {"10", "9"}`, `node["a"] in ["10" "9"]`},
		{`pod.name in {"x", "x"}`, `pod.name in ["x"]`},
		{`int(node["n"]) in {10, 9, -3, 10, 9}`, `int(node["n"]) in [-3 9 10]`},
		{`int(pod["n"]) in {0}`, `int(pod["n"]) in [0]`},
		{`node.cap("cpu") in {2, 1}`, `cap("cpu") in [1 2]`},
		{`count("z", false) in {2, 1, 2}`, `count("z", #0) in [1 2] | false`},
	} {
		expect(t, x.source, api.OfNode, x.want)
		expect(t, strings.Replace(x.source, " in ", " notin ", 1), api.OfNode, "!"+x.want)
	}
	expect(t, `it.name in {"q", "p", "q"}`, api.OfIt, `it.name in ["p" "q"]`)
	constants := map[string]bool{
		`"a" in {"b", "a"}`: true, `"a" in {"b"}`: false, `"" in {"a", ""}`: true, `7 in {7, 8}`: true, `7 in {8}`: false,
		`int("7") in {8, 7}`: true, `int("7") in {70}`: false, `int("07") in {7}`: false, `int("x") in {0}`: false, `int("") in {0}`: false,
		`"a" in {}`: false, `1 in {}`: false, `int("1") in {}`: false, `int("x") in {}`: false,
		`node["a"] in {}`: false, `pod.name in {}`: false, `int(node["n"]) in {}`: false, `node.cap("cpu") in {}`: false, `count("z", true) in {}`: false,
	}
	for source, want := range constants {
		expect(t, source, api.OfNode, fmt.Sprint(want))
		expect(t, strings.Replace(source, " in ", " notin ", 1), api.OfNode, fmt.Sprint(!want))
		expect(t, "!"+source, api.OfNode, fmt.Sprint(!want))
	}
}

// P16.2: membership of both signs in keys and in taints, never reckoned.
func TestMembershipInKeys(t *testing.T) {
	both := func(x, of, want string, scope api.Side) {
		t.Helper()
		expect(t, x+" in "+of, scope, want)
		expect(t, x+" notin "+of, scope, "!"+want)
		expect(t, "!"+x+" notin "+of, scope, want)
	}
	for _, x := range []string{`"gpu"`, `""`, `pod["a"]`, `pod.name`} {
		both(x, "node.keys", x+" in node.keys", api.OfNode)
		both(x, "pod.keys", x+" in pod.keys", api.OfNode)
		both(x, "node.taints", x+" in taints", api.OfNode)
		both(x, "it.keys", x+" in it.keys", api.OfIt)
		both(x, "pod.keys", x+" in pod.keys", api.OfIt)
	}
	for _, x := range []string{`node["a"]`, `node.name`} {
		both(x, "pod.keys", x+" in pod.keys", api.OfNode)
	}
	both(`it.name`, "pod.keys", `it.name in pod.keys`, api.OfIt)
}

// P16.2: near, apart and count with selectors that are constants, literals, conjunctions.
func TestSelectors(t *testing.T) {
	for _, x := range []struct{ selector, made string }{
		{`true`, `true`},
		{`!false`, `true`},
		{`false`, `false`},
		{`it.name in {}`, `false`},
		{`it.name notin {} && 1 > 2`, `false`},
		{`it["app"] == "web"`, `it["app"] in ["web"]`},
		{`!(it["app"] == "web")`, `!it["app"] in ["web"]`},
		{`"app" in it.keys && it.name != pod.name`, `"app" in it.keys; !it.name == pod.name; and[0 1]`},
		{`!(it["a"] == "x" || (int(it["n"]) < 3 && true) || pod["a"] in it.keys)`, `!it["a"] in ["x"]; !int(it["n"]) <= 2; !pod["a"] in it.keys; and[0 1 2]`},
		{`pod["a"] == "x"`, `pod["a"] in ["x"]`},
	} {
		near, apart := `near("z", #0) | `+x.made, `!near("z", #0) | `+x.made
		if x.made == "false" {
			near, apart = "false", "true"
		}
		expect(t, `near("z", `+x.selector+`)`, api.OfNode, near)
		expect(t, `apart("z", `+x.selector+`)`, api.OfNode, apart)
		expect(t, `!near("z", `+x.selector+`)`, api.OfNode, apart)
		expect(t, `!apart("z", `+x.selector+`)`, api.OfNode, near)
		expect(t, `count("z", `+x.selector+`) > 1`, api.OfNode, `count("z", #0) >= 2 | `+x.made)
		expect(t, `!(int(pod["n"]) > count("z", `+x.selector+`))`, api.OfNode, `!count("z", #0) < int(pod["n"]) | `+x.made)
		expect(t, x.selector, api.OfIt, x.made)
	}
}
