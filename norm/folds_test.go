package norm_test

import (
	"testing"

	"berth/api"
)

// P16.2: conjunctions and disjunctions that fold: to a constant, to one kid, to fewer kids; nothing else is joined.
func TestFolds(t *testing.T) {
	for _, x := range []struct{ source, want string }{
		{`true && true`, `true`},
		{`true && false`, `false`},
		{`false || false`, `false`},
		{`false || true`, `true`},
		{`true && true && true`, `true`},
		{`node.name == "a" && false`, `false`},
		{`false && node.name == "a" && true`, `false`},
		{`node.name == "a" || true`, `true`},
		{`node.name == "a" && true`, `node.name in ["a"]`},
		{`true && node.name == "a" && true`, `node.name in ["a"]`},
		{`false || node.name == "a"`, `node.name in ["a"]`},
		{`node.name == "a" && true && node.name == "b"`, `node.name in ["a"]; node.name in ["b"]; and[0 1]`},
		{`node.name == "a" || false || node.name == "b" || false`, `node.name in ["a"]; node.name in ["b"]; or[0 1]`},
		{`!(node.name == "a" && true)`, `!node.name in ["a"]`},
		{`!(node.name == "a" && false)`, `true`},
		{`!(node.name == "a" || true)`, `false`},
		{`!(node.name == "a" || false)`, `!node.name in ["a"]`},
		{`!(true && true)`, `false`},
		{`!(false || false)`, `true`},
		{`(node.name == "a" && true) && (true && node.name == "b")`, `node.name in ["a"]; node.name in ["b"]; and[0 1]`},
		{`(true && true) && (false || false || node.name == "b")`, `node.name in ["b"]`},
		{`(node.name == "a" && node.name == "b") && node.name == "c"`, `node.name in ["a"]; node.name in ["b"]; and[0 1]; node.name in ["c"]; and[2 3]`},
		{`node.name == "a" || (node.name == "b" || node.name == "c")`, `node.name in ["a"]; node.name in ["b"]; node.name in ["c"]; or[1 2]; or[0 3]`},
		{`node.name == "a" && node.name == "a"`, `node.name in ["a"]; node.name in ["a"]; and[0 1]`},
		{`node.name == "a" && node.name != "a"`, `node.name in ["a"]; !node.name in ["a"]; and[0 1]`},
		{`(true || node.name == "a") && (node.name == "b" || node.name == "c" && false)`, `node.name in ["b"]`},
		{`!((node.name == "a" || node.name == "b") && (node.name == "c" || true))`, `!node.name in ["a"]; !node.name in ["b"]; and[0 1]`},
		{`node.name == "a" && (node.name == "b" || !(node.name == "c" && node.name == "d"))`, `node.name in ["a"]; node.name in ["b"]; !node.name in ["c"]; !node.name in ["d"]; or[2 3]; or[1 4]; and[0 5]`},
	} {
		expect(t, x.source, api.OfNode, x.want)
	}
}

// P16.2: nothing is reckoned of what a term may be worth.
func TestNothingMoreIsReckoned(t *testing.T) {
	for _, x := range []struct{ source, want string }{
		{`count("z", true) >= 0`, `count("z", #0) >= 0 | true`},
		{`count("z", false) == 0`, `count("z", #0) in [0] | false`},
		{`count("z", false) > 0`, `count("z", #0) >= 1 | false`},
		{`count("z", it.name in {}) == int(pod["n"])`, `count("z", #0) == int(pod["n"]) | false`},
		{`node.cap("cpu") >= 0`, `cap("cpu") >= 0`},
		{`node.cap("cpu") < 0`, `cap("cpu") <= -1`},
		{`node.name == ""`, `node.name in [""]`},
		{`pod["a"] == pod["a"]`, `pod["a"] == pod["a"]`},
		{`"a b" in node.keys`, `"a b" in node.keys`},
		{`int(node["n"]) == 999999999999999999`, `int(node["n"]) in [999999999999999999]`},
		{`pod["app"] == "web" && "a" in pod.keys`, `pod["app"] in ["web"]; "a" in pod.keys; and[0 1]`},
	} {
		expect(t, x.source, api.OfNode, x.want)
	}
}

// P16.2, R1: the greatest and the least number that a source can hold, and the bounds one beyond them.
func TestNumbersAtTheEnds(t *testing.T) {
	const great, least = "999999999999999999", "-999999999999999999"
	const above, below = "1000000000000000000", "-1000000000000000000"
	for _, x := range []struct{ source, want string }{
		{`node.cap("a") > ` + great, `cap("a") >= ` + above},
		{`node.cap("a") >= ` + great, `cap("a") >= ` + great},
		{`node.cap("a") < ` + great, `cap("a") <= 999999999999999998`},
		{`node.cap("a") <= ` + great, `cap("a") <= ` + great},
		{`node.cap("a") < ` + least, `cap("a") <= ` + below},
		{`node.cap("a") <= ` + least, `cap("a") <= ` + least},
		{`node.cap("a") > ` + least, `cap("a") >= -999999999999999998`},
		{`node.cap("a") >= ` + least, `cap("a") >= ` + least},
		{great + ` < node.cap("a")`, `cap("a") >= ` + above},
		{least + ` > node.cap("a")`, `cap("a") <= ` + below},
		{`!(` + least + ` > node.cap("a"))`, `!cap("a") <= ` + below},
		{`node.cap("a") in {` + great + `, 0, ` + least + `}`, `cap("a") in [` + least + ` 0 ` + great + `]`},
		{`count("z", true) > ` + great, `count("z", #0) >= ` + above + ` | true`},
		{great + ` > ` + least, `true`},
	} {
		expect(t, x.source, api.OfNode, x.want)
	}
}

// P16.2: selectors are numbered by their literals in Main, each has an entry of its own, and those of what has fallen away are nowhere.
func TestSelectorsAreNumbered(t *testing.T) {
	for _, x := range []struct{ source, want string }{
		{`near("z", true) && near("z", true)`, `near("z", #0); near("z", #1); and[0 1] | true | true`},
		{`count("z", it.name == "p") > 0 || count("z", it.name == "p") > 0`, `count("z", #0) >= 1; count("z", #1) >= 1; or[0 1] | it.name in ["p"] | it.name in ["p"]`},
		{`near("a", it.name == "1") && (false && near("b", it.name == "2")) || near("c", it.name == "3")`, `near("c", #0) | it.name in ["3"]`},
		{`near("a", it.name == "1") && (true || near("b", it.name == "2")) && apart("c", it.name == "3")`, `near("a", #0); !near("c", #1); and[0 1] | it.name in ["1"] | it.name in ["3"]`},
		{`count("a", it.name == "1") in {} || count("b", it.name == "2") == int("x") || count("c", it.name == "3") != 4`, `!count("c", #0) in [4] | it.name in ["3"]`},
		{`near("a", false) || near("b", it.name == "2")`, `near("b", #0) | it.name in ["2"]`},
		{`count("a", false) > 1 || near("b", it.name == "2")`, `count("a", #0) >= 2; near("b", #1); or[0 1] | false | it.name in ["2"]`},
		{`int(pod["n"]) < count("a", it.name == "1") && near("b", true) || count("c", false) == 0`, `count("a", #0) > int(pod["n"]); near("b", #1); and[0 1]; count("c", #2) in [0]; or[2 3] | it.name in ["1"] | true | false`},
		{`node.name == "x" && apart("a", it.name == "1" && it.name == "2")`, `node.name in ["x"]; !near("a", #0); and[0 1] | it.name in ["1"]; it.name in ["2"]; and[0 1]`},
	} {
		expect(t, x.source, api.OfNode, x.want)
	}
}
