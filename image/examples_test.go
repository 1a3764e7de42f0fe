package image_test

import (
	"bytes"
	"testing"

	"berth/api"
)

// P26.1 to P26.3: the chapter's first two examples, byte by byte, their sums as another program reckons them.
func TestExamplesOfStates(t *testing.T) {
	empty := []byte{0x62, 0x65, 0x72, 0x74, 0x68, 1, 0, 0, 0, 0, 0, 0}
	oneNode := []byte{0x62, 0x65, 0x72, 0x74, 0x68, 1, 1, 1, 0x61, 0x0a, 1, 1, 0, 0, 0, 0, 0, 0, 0}
	for _, c := range []struct {
		s          api.State
		inner, sum []byte
	}{
		{api.State{}, empty, []byte{0x29, 0xda, 0xe1, 0xb6, 0x27, 0x15, 0xd4, 0x04}},
		{api.State{Now: 5, Next: -1, Nodes: []api.Node{{Name: "a"}}}, oneNode, []byte{0xfe, 0x9f, 0x04, 0x31, 0xe2, 0x86, 0x28, 0xf7}},
	} {
		if b := checkState(t, c.s); !bytes.Equal(b, append(c.inner, c.sum...)) {
			t.Errorf("Encode(%+v) = % x", c.s, b)
		}
		if f := checkBytes(t, append(c.inner, c.sum...)); f != fine {
			t.Errorf("%+v is refused: %v", c.s, f)
		}
	}
}

// P26.2: the chapter's third and fourth example.
func TestExamplesOfFaults(t *testing.T) {
	expectFault(t, "no bytes", nil, api.ErrImageCut, 0)
	expectFault(t, "62 65 00", []byte{0x62, 0x65, 0}, api.ErrImageHead, 2)
	expectFault(t, "the head alone", []byte{0x62, 0x65, 0x72, 0x74, 0x68, 1}, api.ErrImageCut, 6)
	expectFault(t, "a pod without a text", body(0, 0, 0, 0, 1, 0), api.ErrImageForm, 11)
}
