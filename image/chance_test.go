package image_test

import (
	"math"
	"math/rand/v2"
	"slices"
	"strings"
	"testing"

	"berth/api"
	"berth/image"
)

// chance makes states and bytes of a seed.
type chance struct{ *rand.Rand }

func newChance(seed uint64) chance { return chance{rand.New(rand.NewPCG(seed, 26))} }

func one[T any](r chance, list ...T) T { return list[r.IntN(len(list))] }

func (r chance) text() string {
	switch r.IntN(4) {
	case 0:
		return one(r, "", "a", "aa", "ab", "b", "zone", "\x00", "\xff", "\xc3", "ä", strings.Repeat("a", r.IntN(300)))
	case 1:
		return string(r.bytes(r.IntN(4)))
	}
	return one(r, "cpu", "mem", "zone", "app", "web", "true", api.NoExecute, api.Exists, "n1", "p1")
}

func (r chance) bytes(size int) []byte {
	out := make([]byte, size)
	for i := range out {
		out[i] = one(r, 0, 1, 2, 0x80, 'a', byte(r.IntN(256)))
	}
	return out
}

func (r chance) num() int {
	switch r.IntN(4) {
	case 0:
		return one(r, 0, -1, 1, 63, 64, -64, -65, math.MaxInt, math.MinInt, api.MaxTime)
	case 1:
		return int(r.Uint64())
	case 2:
		return int(r.Uint64()) >> r.IntN(64)
	}
	return r.IntN(200) - 100
}

// list makes a list: often nil or empty, sometimes with spare room.
func list[T any](r chance, each func() T) []T {
	out := one(r, nil, []T{}, make([]T, 0, 5))
	for range one(r, 0, 0, 1, 1, 2, 3, r.IntN(9)) {
		out = append(out, each())
	}
	return out
}

func (r chance) label() api.Label { return api.Label{Key: r.text(), Value: r.text()} }

func (r chance) item() api.Item { return api.Item{Name: r.text(), N: r.num()} }

func (r chance) node() api.Node {
	taint := func() api.Taint { return api.Taint{Key: r.text(), Value: r.text(), Effect: r.text()} }
	return api.Node{Name: r.text(), Labels: list(r, r.label), Taints: list(r, taint), Cap: list(r, r.item), Cordoned: r.IntN(2) == 0}
}

func (r chance) pod() api.Pod {
	toleration := func() api.Toleration {
		return api.Toleration{Key: r.text(), Op: r.text(), Value: r.text(), Effect: r.text()}
	}
	apart := func() api.Apart { return api.Apart{Topo: r.text(), Select: r.text()} }
	prefer := func() api.Prefer { return api.Prefer{Weight: r.num(), Text: r.text()} }
	return api.Pod{Name: r.text(), Labels: list(r, r.label), Needs: list(r, r.item), Tolerations: list(r, toleration),
		Require: r.text(), Apart: list(r, apart), Prefer: list(r, prefer), Priority: r.num()}
}

func (r chance) state() api.State {
	bound := func() api.Bound { return api.Bound{Pod: r.pod(), Node: r.text()} }
	pending := func() api.Pending {
		return api.Pending{Pod: r.pod(), Seq: r.num(), Tries: r.num(), Until: r.num(), Asleep: r.IntN(2) == 0}
	}
	return api.State{Now: r.num(), Next: r.num(), Nodes: list(r, r.node), Bound: list(r, bound), Pending: list(r, pending)}
}

// disturbed is a list of bytes with a few of them changed, taken out, put in, or with a piece of it at another place.
func (r chance) disturbed(b []byte) []byte {
	b = slices.Clone(b)
	for range 1 + r.IntN(3) {
		k := r.IntN(len(b))
		switch r.IntN(6) {
		case 0:
			b[k] = byte(r.IntN(256))
		case 1:
			b[k] += one(r, byte(1), 0xff, 0x80)
		case 2:
			b = slices.Insert(b, k, r.bytes(1+r.IntN(3))...)
		case 3:
			b = append(slices.Delete(b, k, min(k+1+r.IntN(3), len(b))), 0)
		case 4:
			b[k], b[r.IntN(len(b))] = b[r.IntN(len(b))], b[k]
		case 5:
			b = slices.Insert(b, k, slices.Clone(b[r.IntN(k+1):k])...)
		}
	}
	return b
}

// P26.1, P26.3: states of all kinds, whatever stands in them.
func TestStatesByChance(t *testing.T) {
	for seed := range uint64(3000) {
		checkState(t, newChance(seed).state())
	}
}

// P26.2, P26.3, P26.4: images of all kinds that are disturbed, with the sum as it was and made right.
func TestDisturbedImagesByChance(t *testing.T) {
	taken := 0
	for seed := range uint64(600) {
		r := newChance(seed)
		b := checkState(t, r.state())
		inner := b[6 : len(b)-8]
		for range 60 {
			other := r.disturbed(inner)
			if checkBytes(t, body(other...)) == fine {
				taken++
			}
			checkBytes(t, slices.Concat(begin, other, b[len(b)-8:]))
		}
		checkBytes(t, r.disturbed(b))
	}
	if taken < 500 {
		t.Errorf("only %d are images", taken)
	}
}

// P26.2, P1: any bytes, with and without head and sum.
func TestBytesByChance(t *testing.T) {
	for seed := range uint64(20000) {
		r := newChance(seed)
		b := r.bytes(r.IntN(60))
		checkBytes(t, b)
		checkBytes(t, append(slices.Clone(begin), b...))
		checkBytes(t, sealed(b))
		checkBytes(t, body(b...))
	}
}

// P26.1: two states that differ have two images.
func TestNoTwoStatesHaveOneImage(t *testing.T) {
	seen := map[string]api.State{}
	for seed := range uint64(3000) {
		s := newChance(seed).state()
		b, _ := image.Encode(s)
		if other, ok := seen[string(b)]; ok && !alike(other, s) {
			t.Fatalf("%+v and %+v", s, other)
		}
		seen[string(b)] = s
	}
}
