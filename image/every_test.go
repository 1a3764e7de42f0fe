package image_test

import (
	"testing"
)

// everyBody calls visit with each list of bytes of the alphabet that has so many; visit does not keep it.
func everyBody(size int, alphabet []byte, visit func([]byte)) {
	list := make([]byte, size)
	var put func(int)
	put = func(k int) {
		if k == size {
			visit(list)
			return
		}
		for _, c := range alphabet {
			list[k] = c
			put(k + 1)
		}
	}
	put(0)
}

// P26.2, P26.3, P1: all short lists of a few bytes between head and sum are what the model tells of them.
func TestEveryShortBody(t *testing.T) {
	taken := 0
	for _, c := range []struct {
		alphabet []byte
		most     int
	}{
		{[]byte{0, 1, 2, 3, 0x7f, 0x80, 0x81, 0xff}, 5},
		{[]byte{0, 1, 2, 0x80}, 7},
		{[]byte{0, 1, 2}, 9},
		{[]byte{0, 1}, 15},
	} {
		for size := range c.most + 1 {
			everyBody(size, c.alphabet, func(list []byte) {
				if checkBytes(t, body(list...)) == fine {
					taken++
				}
			})
		}
	}
	if taken < 100 {
		t.Errorf("only %d are images", taken)
	}
}

// P26.2, P26.4: all short lists of bytes of the head and others are refused as the model tells.
func TestEveryShortList(t *testing.T) {
	for size := range 8 {
		everyBody(size, []byte{0x62, 0x65, 0x72, 0}, func(list []byte) {
			if checkBytes(t, list) == fine {
				t.Errorf("% x is taken", list)
			}
		})
	}
	for size := range 6 {
		everyBody(size, []byte{0, 1, 0x62}, func(list []byte) {
			for head := range 7 {
				checkBytes(t, append(append([]byte{}, begin[:head]...), list...))
			}
		})
	}
}
