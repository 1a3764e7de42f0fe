package vm_test

import (
	"fmt"
	"slices"
	"strconv"
	"strings"

	"berth/api"
)

// line is a line of chapter 22's table. Operands A, B and C: u, t a place in Texts, s in Sets, n in Nums, m in NumSets, c a Cmp, l a local, j a target, a point where there is none. Cells, a letter each: N a node bitmap, P a pod bitmap, t a text, n a number, T texts, M numbers; b a bitmap of u, x a bitmap, ? any, l what the local holds.
type line struct{ name, operands, takes, puts string }

var lines = []line{
	{},
	{"none", "u..", "", "b"},
	{"all", "u..", "", "b"},
	{"text", "t..", "", "t"},
	{"texts", "s..", "", "T"},
	{"num", "n..", "", "n"},
	{"nums", "m..", "", "M"},
	{"podlabel", "t..", "", "t"},
	{"podname", "...", "", "t"},
	{"podkeys", "...", "", "T"},
	{"one", "...", "t", "T"},
	{"int", "...", "t", "n"},
	{"label", "ut.", "T", "b"},
	{"name", "u..", "T", "b"},
	{"has", "u..", "T", "b"},
	{"taint", "...", "T", "N"},
	{"number", "utc", "n", "b"},
	{"numberin", "ut.", "M", "b"},
	{"cap", ".tc", "n", "N"},
	{"capin", ".t.", "M", "N"},
	{"count", ".tc", "Pn", "N"},
	{"countin", ".t.", "PM", "N"},
	{"near", ".t.", "P", "N"},
	{"tolerated", ".t.", "", "N"},
	{"member", "u..", "tT", "b"},
	{"compare", "u.c", "nn", "b"},
	{"among", "u..", "nM", "b"},
	{"and", "...", "xx", "x"},
	{"or", "...", "xx", "x"},
	{"andnot", "...", "xx", "x"},
	{"not", "...", "x", "x"},
	{"save", "l..", "x", ""},
	{"load", "l..", "", "l"},
	{"jumpnone", "j..", "x", "x"},
	{"jumpall", "j..", "x", "x"},
	{"pop", "...", "?", ""},
	{"end", "...", "N", ""},
}

// marks are the Cmps.
var marks = []string{"?", "==", "!=", "<", "<=", ">", ">="}

// op makes an instruction.
func op(o api.Op, operands ...int) api.Instr {
	i := api.Instr{Op: o}
	for k, n := range operands {
		*operandsOf(&i)[k] = n
	}
	return i
}

func operandsOf(i *api.Instr) []*int { return []*int{&i.A, &i.B, &i.C} }

// intern is the place of a thing in a pool, in which it is put if it isn't there.
func intern[T any](pool *[]T, thing T) int {
	for at, other := range *pool {
		if fmt.Sprintf("%#v", other) == fmt.Sprintf("%#v", thing) {
			return at
		}
	}
	*pool = append(*pool, thing)
	return len(*pool) - 1
}

// word is a text as code writes it: an underline is the empty one.
func word(s string) string {
	if s == "_" {
		return ""
	}
	return s
}

func number(s string) int {
	n, err := strconv.Atoi(s)
	if err != nil {
		panic(err)
	}
	return n
}

// listed are the elements of a set as code writes it: with commas, a point for no element.
func listed[T any](s string, each func(s string) T) []T {
	out := []T{}
	for _, piece := range strings.Split(s, ",") {
		if s != "." {
			out = append(out, each(piece))
		}
	}
	return out
}

// operand is what an operand is that is written so.
func operand(p *api.Program, what byte, s string, targets map[string]int) int {
	switch what {
	case 't':
		return intern(&p.Texts, word(s))
	case 's':
		return intern(&p.Sets, listed(s, word))
	case 'n':
		return intern(&p.Nums, number(s))
	case 'm':
		return intern(&p.NumSets, listed(s, number))
	case 'c':
		return slices.Index(marks, s)
	case 'j':
		return targets[s]
	}
	return number(s)
}

// assemble makes a program of code as a text: instructions with semicolons between them, a word and a colon ahead of one at which a jump comes down. It may have as deep a stack and as many locals as there can be.
func assemble(source string) api.Program {
	p := api.Program{Depth: api.MaxDeep, Locals: api.MaxLocals}
	targets := map[string]int{}
	var words [][]string
	for place, piece := range strings.Split(source, ";") {
		w := strings.Fields(piece)
		for strings.HasSuffix(w[0], ":") {
			targets[strings.TrimSuffix(w[0], ":")] = place
			w = w[1:]
		}
		words = append(words, w)
	}
	for _, w := range words {
		o := 1
		for lines[o].name != w[0] {
			o++
		}
		i, rest := op(api.Op(o)), w[1:]
		for k, operandAt := range operandsOf(&i) {
			if what := lines[o].operands[k]; what != '.' {
				*operandAt, rest = operand(&p, what, rest[0], targets), rest[1:]
			}
		}
		if len(rest) > 0 {
			panic(source)
		}
		p.Code = append(p.Code, i)
	}
	return p
}

// short is the beginning of a text, for messages.
func short(s string) string { return s[:min(len(s), 2500)] }

// told is a program as a text.
func told(p api.Program) string {
	var out []string
	for _, i := range p.Code {
		name := fmt.Sprint("op ", int(i.Op))
		if i.Op > 0 && int(i.Op) < len(lines) {
			name = lines[i.Op].name
		}
		out = append(out, fmt.Sprint(name, " ", i.A, " ", i.B, " ", i.C))
	}
	pools := fmt.Sprintf("%q %d %q %d", p.Texts, p.Nums, p.Sets, p.NumSets)
	return short(fmt.Sprintf("depth %d, locals %d, %.1000s: %s", p.Depth, p.Locals, pools, strings.Join(out, "; ")))
}
