package gen_test

import (
	"fmt"
	"regexp"
	"strconv"
	"strings"

	"berth/api"
)

// row is a row of chapter 22's table. Operands A, B and C: u a universe, t a place in Texts, s in Sets, n in Nums, m in NumSets, c a Cmp, l a local, j a target, a point where there is none. Cells: b a bitmap of u, N of nodes, P of pods, x of any, t a text, n a number, T texts, M numbers, l what the local holds.
type row struct{ name, operands, takes, puts string }

var table = []row{
	{},
	{"None", "u..", "", "b"},
	{"All", "u..", "", "b"},
	{"Text", "t..", "", "t"},
	{"Texts", "s..", "", "T"},
	{"Num", "n..", "", "n"},
	{"Nums", "m..", "", "M"},
	{"PodLabel", "t..", "", "t"},
	{"PodName", "...", "", "t"},
	{"PodKeys", "...", "", "T"},
	{"One", "...", "t", "T"},
	{"Int", "...", "t", "n"},
	{"Label", "ut.", "T", "b"},
	{"Name", "u..", "T", "b"},
	{"Has", "u..", "T", "b"},
	{"Taint", "...", "T", "N"},
	{"Number", "utc", "n", "b"},
	{"NumberIn", "ut.", "M", "b"},
	{"Cap", ".tc", "n", "N"},
	{"CapIn", ".t.", "M", "N"},
	{"Count", ".tc", "Pn", "N"},
	{"CountIn", ".t.", "PM", "N"},
	{"Near", ".t.", "P", "N"},
	{"Tolerated", ".t.", "", "N"},
	{"Member", "u..", "tT", "b"},
	{"Compare", "u.c", "nn", "b"},
	{"Among", "u..", "nM", "b"},
	{"And", "...", "xx", "x"},
	{"Or", "...", "xx", "x"},
	{"AndNot", "...", "xx", "x"},
	{"Not", "...", "x", "x"},
	{"Save", "l..", "x", ""},
	{"Load", "l..", "", "l"},
	{"JumpNone", "j..", "x", "x"},
	{"JumpAll", "j..", "x", "x"},
	{"Pop", "...", "?", ""},
	{"End", "...", "N", ""},
}

func operandsOf(i api.Instr) []int { return []int{i.A, i.B, i.C} }

var plainWord = regexp.MustCompile(`^[A-Za-z0-9]+$`)

func word(s string) string {
	if plainWord.MatchString(s) {
		return s
	}
	return strconv.Quote(s)
}

func wordsOf(list []string) string {
	var out []string
	for _, s := range list {
		out = append(out, word(s))
	}
	return strings.Join(out, " ")
}

// at is an element of a list, or the zero one where there is none.
func at[T any](list []T, place int) T {
	var none T
	if place < 0 || place >= len(list) {
		return none
	}
	return list[place]
}

var cmpMarks = []string{"?", "==", "!=", "<", "<=", ">", ">="}

// toldInstr is an instruction with the constants that it names.
func toldInstr(p api.Program, i api.Instr) string {
	row := at(table, int(i.Op))
	out := row.name
	for k, n := range operandsOf(i) {
		if k >= len(row.operands) {
			break
		}
		switch row.operands[k] {
		case 'u', 'l', 'j':
			out += fmt.Sprint(" ", n)
		case 't':
			out += " " + word(at(p.Texts, n))
		case 's':
			out += " " + wordsOf(at(p.Sets, n))
		case 'n':
			out += fmt.Sprint(" ", at(p.Nums, n))
		case 'm':
			out += " " + strings.Trim(fmt.Sprint(at(p.NumSets, n)), "[]")
		case 'c':
			out += " " + at(cmpMarks, n)
		}
	}
	return out
}

// toldCode is a program's code, with the constants in the places of the operands that name them.
func toldCode(p api.Program) string {
	var out []string
	for _, i := range p.Code {
		out = append(out, toldInstr(p, i))
	}
	return strings.Join(out, "; ")
}

// told is all of a program.
func told(p api.Program) string {
	return fmt.Sprintf("%s | depth %d, locals %d | %q %d %q %d %v", toldCode(p), p.Depth, p.Locals, p.Texts, p.Nums, p.Sets, p.NumSets, p.Code)
}

func toldTerm(t api.Term) string {
	return fmt.Sprintf("%d.%d[%s]#%d", t.Kind, t.Side, word(t.Key), t.Sel)
}

func toldLit(l api.Lit) string {
	return fmt.Sprintf("lit %d %s %s %d %q %d %s of %d %s #%d", l.Kind, toldTerm(l.Term), at(cmpMarks, int(l.Rel)), l.Num, l.Texts, l.Nums, toldTerm(l.Other), l.Of, word(l.Key), l.Sel)
}

// toldDag is a dag, part by part, those for pods with a star.
func toldDag(d api.Dag) string {
	var out []string
	for i, part := range d.Parts {
		told := fmt.Sprint(i, map[bool]string{true: "*"}[part.Pods], " ", at([]string{"?", "true", "false", "", "not", "and", "or"}, int(part.Kind)))
		if part.Kind == api.DLit {
			told += toldLit(part.Lit)
		}
		if len(part.Kids) > 0 {
			told += fmt.Sprint(part.Kids)
		}
		out = append(out, told)
	}
	return fmt.Sprint(strings.Join(out, "; "), "; root ", d.Root)
}

// short is the beginning of a text, for messages.
func short(s string) string { return s[:min(len(s), 3000)] }
