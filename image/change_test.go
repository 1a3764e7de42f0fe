package image_test

import (
	"errors"
	"slices"
	"testing"

	"berth/api"
	"berth/image"
)

// smallImages are the images of some states.
func smallImages(t *testing.T) [][]byte {
	node := api.Node{Name: "n", Labels: []api.Label{{Key: "zone", Value: "x"}}, Cap: []api.Item{{Name: "cpu", N: 4000}}, Cordoned: true}
	pod := api.Pod{Name: "p", Needs: []api.Item{{Name: "cpu", N: -65}}, Prefer: []api.Prefer{{Weight: 100, Text: "true"}}, Priority: -1000000}
	return [][]byte{
		checkState(t, api.State{}),
		checkState(t, api.State{Now: 5, Next: -1, Nodes: []api.Node{{Name: "a"}}}),
		checkState(t, api.State{Now: 1 << 40, Next: 3, Nodes: []api.Node{node, {}}, Bound: []api.Bound{{Pod: pod, Node: "n"}}}),
		checkState(t, api.State{Pending: []api.Pending{{Pod: pod, Seq: 1, Until: 1 << 62, Asleep: true}, {}}}),
		checkState(t, everyField(texts(0, "", "a", "\xff\xfe", "ab"))),
	}
}

// P26.4, P26.2: an image, one byte of which is another one, is refused: for the head or for the sum.
func TestOneByteIsAnotherOne(t *testing.T) {
	for _, b := range smallImages(t) {
		for k := range b {
			for c := range 256 {
				other := slices.Clone(b)
				if other[k] = byte(c); other[k] == b[k] {
					continue
				}
				want := flaw{api.ErrImageSum, len(b) - 8}
				if k < 6 {
					want = flaw{api.ErrImageHead, k}
				}
				if f := checkBytes(t, other); f != want {
					t.Fatalf("byte %d of % x is %x: %v, want %v", k, b, c, f, want)
				}
			}
		}
	}
}

// P26.2, P26.3: an image, one byte of which is another one and the sum made right, is what the model tells; where it is one, it is that of its state.
func TestOneByteIsAnotherOneAndTheSumToo(t *testing.T) {
	for _, b := range smallImages(t) {
		inner := b[:len(b)-8]
		for k := range inner {
			for c := range 256 {
				other := slices.Clone(inner)
				other[k] = byte(c)
				checkBytes(t, sealed(other))
			}
		}
	}
}

// P26.2, P26.3: the same with one byte taken out, put in or doubled.
func TestOneByteMoreOrLess(t *testing.T) {
	for _, b := range smallImages(t) {
		inner := b[:len(b)-8]
		for k := range inner {
			checkBytes(t, sealed(slices.Delete(slices.Clone(inner), k, k+1)))
			for c := range 256 {
				checkBytes(t, sealed(slices.Insert(slices.Clone(inner), k, byte(c))))
			}
		}
	}
}

// P26.4: each of an image's beginnings that is shorter is refused, with the sum that stands there and with one made right.
func TestBeginnings(t *testing.T) {
	for _, b := range smallImages(t) {
		for size := range len(b) {
			if f := checkBytes(t, b[:size:size]); f == fine {
				t.Errorf("the first %d bytes of % x are taken", size, b)
			}
		}
		for size := range len(b) - 8 {
			if f := checkBytes(t, sealed(b[:size])); f == fine {
				t.Errorf("the first %d bytes of % x are taken with a sum", size, b)
			}
		}
	}
}

// P26.4: each longer list of bytes that begins with an image is refused, whatever is behind it.
func TestLongerBytes(t *testing.T) {
	for _, b := range smallImages(t) {
		for _, tail := range [][]byte{{0}, {1}, {0xff}, b, b[len(b)-8:], b[:6], make([]byte, 8), make([]byte, 300)} {
			for size := range len(tail) {
				longer := slices.Concat(b, tail[:size+1])
				if f := checkBytes(t, longer); f == fine {
					t.Errorf("% x with % x behind it is taken", b, tail[:size+1])
				}
				if f := checkBytes(t, sealed(longer)); f == fine {
					t.Errorf("% x with % x and a sum behind it is taken", b, tail[:size+1])
				}
			}
		}
		if f := checkBytes(t, sealed(b)); f != (flaw{api.ErrImageTail, len(b) - 8}) {
			t.Errorf("% x with a sum behind its sum: %v", b, f)
		}
	}
}

// R2: the fault is a *api.Fault itself, which is its code to errors.Is; no state stands beside it.
func TestFaultItself(t *testing.T) {
	s, err := image.Decode(body(0, 0, 0, 0, 1, 0))
	f, ok := err.(*api.Fault)
	if !ok || f == nil || f.Name != "" || f.Cause != nil || !errors.Is(err, api.ErrImageForm) || !alike(s, api.State{}) {
		t.Errorf("%+v, %v", s, err)
	}
}
