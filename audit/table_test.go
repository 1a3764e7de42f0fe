package audit_test

import (
	"fmt"
	"strings"

	"berth/api"
)

// chapter22 is the table of doc/22-vm.md, without the last column.
const chapter22 = `
| 1 OpNone | A u | -> bitmap of u |
| 2 OpAll | A u | -> bitmap of u |
| 3 OpText | A in Texts | -> text |
| 4 OpTexts | A in Sets | -> texts |
| 5 OpNum | A in Nums | -> number |
| 6 OpNums | A in NumSets | -> numbers |
| 7 OpPodLabel | A in Texts | -> text |
| 8 OpPodName | | -> text |
| 9 OpPodKeys | | -> texts |
| 10 OpOne | | text -> texts |
| 11 OpInt | | text -> number |
| 12 OpLabel | A u, B in Texts | texts -> bitmap of u |
| 13 OpName | A u | texts -> bitmap of u |
| 14 OpHas | A u | texts -> bitmap of u |
| 15 OpTaint | | texts -> node bitmap |
| 16 OpNumber | A u, B in Texts, C a Cmp | number -> bitmap of u |
| 17 OpNumberIn | A u, B in Texts | numbers -> bitmap of u |
| 18 OpCap | B in Texts, C a Cmp | number -> node bitmap |
| 19 OpCapIn | B in Texts | numbers -> node bitmap |
| 20 OpCount | B in Texts, C a Cmp | pod bitmap, number -> node bitmap |
| 21 OpCountIn | B in Texts | pod bitmap, numbers -> node bitmap |
| 22 OpNear | B in Texts | pod bitmap -> node bitmap |
| 23 OpTolerated | B in Texts | -> node bitmap |
| 24 OpMember | A u | text, texts -> bitmap of u |
| 25 OpCompare | A u, C a Cmp | number, number -> bitmap of u |
| 26 OpAmong | A u | number, numbers -> bitmap of u |
| 27 OpAnd | | bitmap, bitmap -> bitmap, all of one kind |
| 28 OpOr | | bitmap, bitmap -> bitmap, all of one kind |
| 29 OpAndNot | | bitmap, bitmap -> bitmap, all of one kind |
| 30 OpNot | | bitmap -> bitmap of the same kind |
| 31 OpSave | A a local | bitmap -> |
| 32 OpLoad | A a local | -> bitmap |
| 33 OpJumpNone | A a target | bitmap -> the same bitmap |
| 34 OpJumpAll | A a target | bitmap -> the same bitmap |
| 35 OpPop | | any -> |
| 36 OpEnd | | node bitmap -> |
`

// line is a line of the table. Operands A, B and C: u, t a place in Texts, s in Sets, n in Nums, m in NumSets, c a Cmp, l a local, j a target, a point where there is none. Cells, a letter each: N a node bitmap, P a pod bitmap, t a text, n a number, T texts, M numbers; b a bitmap of u, x a bitmap, ? any, l what the local holds.
type line struct{ name, operands, takes, puts string }

var lines = readTable()

func readTable() []line {
	operands := map[string]string{"u": "u", "in Texts": "t", "in Sets": "s", "in Nums": "n", "in NumSets": "m", "a Cmp": "c", "a local": "l", "a target": "j"}
	cells := map[string]string{"": "", "bitmap of u": "b", "node bitmap": "N", "pod bitmap": "P", "text": "t", "number": "n", "texts": "T", "numbers": "M",
		"bitmap": "x", "bitmap, all of one kind": "x", "bitmap of the same kind": "x", "the same bitmap": "x", "any": "?"}
	known := func(words map[string]string, word string) string {
		letter, is := words[strings.TrimSpace(word)]
		if !is {
			panic(word)
		}
		return letter
	}
	out := []line{{}}
	for _, row := range strings.Split(strings.TrimSpace(chapter22), "\n") {
		column := strings.Split(row, "|")
		l := line{operands: "..."}
		place := 0
		fmt.Sscanf(column[1], "%d %s", &place, &l.name)
		if place != len(out) {
			panic(row)
		}
		for _, operand := range strings.Split(column[2], ",") {
			if name, what, is := strings.Cut(strings.TrimSpace(operand), " "); is {
				at := strings.Index("ABC", name)
				l.operands = l.operands[:at] + known(operands, what) + l.operands[at+1:]
			}
		}
		takes, puts, _ := strings.Cut(column[3], "->")
		for _, cell := range strings.Split(takes, ",") {
			l.takes += known(cells, cell)
		}
		if l.puts = known(cells, puts); l.puts == "x" && l.takes == "" {
			l.puts = "l"
		}
		out = append(out, l)
	}
	return out
}

func operandsOf(i api.Instr) []int { return []int{i.A, i.B, i.C} }

// op makes an instruction.
func op(o api.Op, operands ...int) api.Instr {
	i := api.Instr{Op: o}
	for k, n := range operands {
		*[]*int{&i.A, &i.B, &i.C}[k] = n
	}
	return i
}

// toldCode is a program's code.
func toldCode(p api.Program) string {
	var out []string
	for _, i := range p.Code {
		name := fmt.Sprint("Op ", int(i.Op))
		if i.Op > 0 && int(i.Op) < len(lines) {
			name = lines[i.Op].name
		}
		out = append(out, fmt.Sprint(name, " ", i.A, " ", i.B, " ", i.C))
	}
	return strings.Join(out, "; ")
}

// short is the beginning of a text, for messages.
func short(s string) string { return s[:min(len(s), 2500)] }

// told is all that the audit looks at of a program.
func told(p api.Program) string {
	return short(fmt.Sprintf("depth %d, locals %d, pools of %d %d %d %d: %s", p.Depth, p.Locals, len(p.Texts), len(p.Nums), len(p.Sets), len(p.NumSets), toldCode(p)))
}
