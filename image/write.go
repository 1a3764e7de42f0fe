package image

import (
	"maps"
	"slices"

	"berth/api"
)

// gatherer takes down which texts a state uses.
type gatherer map[string]int

func (g gatherer) text(t *string)   { g[*t] = 0 }
func (g gatherer) number(*int)      {}
func (g gatherer) truth(*bool)      {}
func (g gatherer) size(has int) int { return has }

// writer puts the pieces of an image behind one another.
type writer struct {
	places map[string]int // of each text that the state uses
	bytes  []byte
}

// table sets the texts' places too: the state behind it tells its texts by them.
func (w *writer) table() {
	w.count(uint64(len(w.places)))
	for place, text := range slices.Sorted(maps.Keys(w.places)) {
		w.places[text] = place
		w.size(len(text))
		w.add(text)
	}
}

func (w *writer) text(t *string) { w.count(uint64(w.places[*t])) }

// number tells numbers below 0 by the odd counts: the second shift fills up with the sign, so that it turns all bits of those alone.
func (w *writer) number(n *int) { w.count(uint64(*n)<<1 ^ uint64(*n>>63)) }

func (w *writer) truth(t *bool) {
	if *t {
		w.count(1)
	} else {
		w.count(0)
	}
}

func (w *writer) size(has int) int {
	w.count(uint64(has))
	return has
}

func (w *writer) count(n uint64) {
	for ; n > 127; n >>= 7 {
		w.addByte(byte(n) | 128)
	}
	w.addByte(byte(n))
}

func (w *writer) addByte(b byte) { w.add(string([]byte{b})) }

// add keeps no more than one byte above what an image may have: whatever the state's size is, that of the bytes is bounded.
func (w *writer) add(s string) {
	room := api.MaxImage + 1 - len(w.bytes)
	w.bytes = append(w.bytes, s[:min(room, len(s))]...)
}
