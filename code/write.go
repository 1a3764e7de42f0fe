package code

import "berth/api"

// writer writes a program that has a form: it looks for no faults of its own.
type writer struct {
	bytes []byte
}

func (w *writer) program(p api.Program) {
	w.bytes = append(w.bytes, head...)
	w.count(p.Depth)
	w.count(p.Locals)
	list(w, p.Texts, w.text)
	list(w, p.Nums, w.signed)
	list(w, p.Sets, w.textSet)
	list(w, p.NumSets, w.numberSet)
	list(w, p.Code, w.instruction)
}

// list writes how many elements there are and then each of them.
func list[T any](w *writer, elements []T, write func(T)) {
	w.count(len(elements))
	for _, element := range elements {
		write(element)
	}
}

func (w *writer) count(n int) {
	for n > 127 {
		w.bytes = append(w.bytes, byte(n%128+128))
		n /= 128
	}
	w.bytes = append(w.bytes, byte(n))
}

// signed puts the numbers below 0 between those above: so all that are near to 0 are short.
func (w *writer) signed(n int) {
	if n < 0 {
		w.count(-2*n - 1)
		return
	}
	w.count(2 * n)
}

func (w *writer) text(text string) {
	w.count(len(text))
	w.bytes = append(w.bytes, text...)
}

func (w *writer) textSet(set []string) { list(w, set, w.text) }

func (w *writer) numberSet(set []int) { list(w, set, w.signed) }

func (w *writer) instruction(i api.Instr) {
	w.bytes = append(w.bytes, byte(i.Op))
	operands := [3]int{i.A, i.B, i.C}
	for k, used := range uses(i.Op) {
		if used {
			w.count(operands[k])
		}
	}
}
