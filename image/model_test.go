package image_test

import (
	"bytes"
	"math/big"
	"reflect"
	"slices"
	"sort"
	"testing"

	"berth/api"
	"berth/image"
)

var begin = []byte{0x62, 0x65, 0x72, 0x74, 0x68, 1}

// flat is what a state is made of, one piece behind the other: ints, texts, bools, and of a list its length ahead of its elements. The fields of package api's types stand in the order of the chapter's.
func flat(v any) []any {
	r := reflect.ValueOf(v)
	switch r.Kind() {
	case reflect.Struct:
		var out []any
		for i := range r.NumField() {
			out = append(out, flat(r.Field(i).Interface())...)
		}
		return out
	case reflect.Slice:
		out := []any{length(r.Len())}
		for i := range r.Len() {
			out = append(out, flat(r.Index(i).Interface())...)
		}
		return out
	}
	return []any{v}
}

// length is how many elements a list has.
type length int

// sevens is a count's form.
func sevens(n *big.Int) []byte {
	var out []byte
	for n = new(big.Int).Set(n); ; {
		low := new(big.Int).And(n, big.NewInt(127)).Int64()
		n.Rsh(n, 7)
		if n.Sign() == 0 {
			return append(out, byte(low))
		}
		out = append(out, byte(low+128))
	}
}

func count(n int) []byte { return sevens(big.NewInt(int64(n))) }

// signless is the count of a number: 2n, or -2n - 1.
func signless(n int) *big.Int {
	double := new(big.Int).Mul(big.NewInt(2), big.NewInt(int64(n)))
	if n < 0 {
		return new(big.Int).Sub(new(big.Int).Neg(double), big.NewInt(1))
	}
	return double
}

// used are the texts of the pieces, rising.
func used(pieces []any) []string {
	var out []string
	for _, p := range pieces {
		if text, ok := p.(string); ok {
			out = append(out, text)
		}
	}
	sort.Strings(out)
	return slices.Compact(out)
}

// plain is the image of a state, however long it is: made of its pieces, by the chapter's words.
func plain(s api.State) []byte {
	pieces := flat(s)
	texts := used(pieces)
	b := append(slices.Clone(begin), count(len(texts))...)
	for _, text := range texts {
		b = append(append(b, count(len(text))...), text...)
	}
	for _, p := range pieces {
		switch x := p.(type) {
		case length:
			b = append(b, count(int(x))...)
		case int:
			b = append(b, sevens(signless(x))...)
		case string:
			b = append(b, count(sort.SearchStrings(texts, x))...)
		case bool:
			if x {
				b = append(b, 1)
			} else {
				b = append(b, 0)
			}
		}
	}
	return sealed(b)
}

// sealed is what an image is ahead of its sum, with the sum behind.
func sealed(b []byte) []byte {
	sum := uint64(14695981039346656037)
	for _, c := range b {
		sum ^= uint64(c)
		sum *= 1099511628211
	}
	b = slices.Clone(b)
	for range 8 {
		b = append(b, byte(sum%256))
		sum /= 256
	}
	return b
}

// body is an image of these bytes between head and sum.
func body(b ...byte) []byte { return sealed(append(slices.Clone(begin), b...)) }

// flaw is a fault that the model meets.
type flaw struct {
	code api.Errno
	at   int
}

var fine flaw

// look is the model of what Decode tells of bytes: it asks them by the chapter's list of faults, and fills a state by its types' fields.
func look(b []byte) (api.State, flaw) {
	var s api.State
	if len(b) > 1<<24 {
		return s, flaw{api.ErrImageLong, -1}
	}
	for i, c := range b[:min(6, len(b))] {
		if c != begin[i] {
			return s, flaw{api.ErrImageHead, i}
		}
	}
	if len(b) < 14 {
		return s, flaw{api.ErrImageCut, len(b)}
	}
	inner := b[:len(b)-8]
	if !bytes.Equal(sealed(inner), b) {
		return s, flaw{api.ErrImageSum, len(inner)}
	}
	l := &looker{inner: inner, next: 6, usedPlaces: map[int]bool{}}
	f := l.inside(&s)
	if f != fine {
		return api.State{}, f
	}
	return s, fine
}

// looker goes through what stands between head and sum.
type looker struct {
	inner      []byte
	next       int
	texts      []string
	places     []int
	usedPlaces map[int]bool
}

func (l *looker) inside(s *api.State) flaw {
	if f := l.table(); f != fine {
		return f
	}
	if f := l.fill(reflect.ValueOf(s).Elem()); f != fine {
		return f
	}
	if l.next != len(l.inner) {
		return flaw{api.ErrImageTail, l.next}
	}
	for i, at := range l.places {
		if !l.usedPlaces[i] {
			return flaw{api.ErrImageForm, at}
		}
	}
	return fine
}

// count takes the count's bytes first and judges them then.
func (l *looker) count() (*big.Int, flaw) {
	rest := l.inner[l.next:]
	size := 0
	for size < len(rest) && size < 9 && rest[size] > 127 {
		size++
	}
	if size == len(rest) {
		return nil, flaw{api.ErrImageCut, len(l.inner)}
	}
	if size == 9 && rest[size] > 1 || size > 0 && rest[size] == 0 {
		return nil, flaw{api.ErrImageForm, l.next}
	}
	n := new(big.Int)
	for i := size; i >= 0; i-- {
		n.Add(n.Mul(n, big.NewInt(128)), big.NewInt(int64(rest[i]%128)))
	}
	l.next += size + 1
	return n, fine
}

func (l *looker) size() (int, flaw) {
	at := l.next
	n, f := l.count()
	if f == fine && n.Cmp(big.NewInt(int64(len(l.inner)-l.next))) > 0 {
		f = flaw{api.ErrImageCut, at}
	}
	if f != fine {
		return 0, f
	}
	return int(n.Int64()), fine
}

func (l *looker) table() flaw {
	many, f := l.size()
	for i := 0; i < many && f == fine; i++ {
		at, size := l.next, 0
		if size, f = l.size(); f != fine {
			return f
		}
		text := string(l.inner[l.next : l.next+size])
		l.next += size
		if i > 0 && !(l.texts[i-1] < text) {
			return flaw{api.ErrImageForm, at}
		}
		l.texts = append(l.texts, text)
		l.places = append(l.places, at)
	}
	return f
}

func (l *looker) fill(v reflect.Value) flaw {
	switch v.Kind() {
	case reflect.Struct:
		for i := range v.NumField() {
			if f := l.fill(v.Field(i)); f != fine {
				return f
			}
		}
		return fine
	case reflect.Slice:
		many, f := l.size()
		for i := 0; i < many && f == fine; i++ {
			element := reflect.New(v.Type().Elem()).Elem()
			f = l.fill(element)
			v.Set(reflect.Append(v, element))
		}
		return f
	}
	return l.fillPiece(v)
}

func (l *looker) fillPiece(v reflect.Value) flaw {
	at := l.next
	if v.Kind() == reflect.Bool {
		if at == len(l.inner) {
			return flaw{api.ErrImageCut, at}
		}
		if l.inner[at] > 1 {
			return flaw{api.ErrImageForm, at}
		}
		v.SetBool(l.inner[at] == 1)
		l.next++
		return fine
	}
	n, f := l.count()
	if f != fine {
		return f
	}
	if v.Kind() == reflect.String {
		if n.Cmp(big.NewInt(int64(len(l.texts)))) >= 0 {
			return flaw{api.ErrImageForm, at}
		}
		v.SetString(l.texts[n.Int64()])
		l.usedPlaces[int(n.Int64())] = true
		return fine
	}
	half := new(big.Int).Rsh(n, 1)
	if n.Bit(0) == 1 {
		half.Not(half)
	}
	v.SetInt(half.Int64())
	return fine
}

// alike: whether two states are the same, a list that is nil being an empty one.
func alike(a, b api.State) bool { return slices.Equal(flat(a), flat(b)) }

// checkState holds Encode of a state to the model's image, and Decode of that to the state; it answers the image.
func checkState(t *testing.T, s api.State) []byte {
	t.Helper()
	want := plain(s)
	got, e := image.Encode(s)
	if e != api.OK || !bytes.Equal(got, want) {
		t.Fatalf("Encode(%+v) = % x, %d, want % x", s, got, e, want)
	}
	again, err := image.Decode(got)
	if err != nil || !alike(again, s) {
		t.Fatalf("Decode(% x) = %+v, %v, want %+v", got, again, err, s)
	}
	return got
}

// checkBytes holds Decode of bytes to what the model tells, and Encode of the state, where there is one, to the bytes; it answers the fault.
func checkBytes(t *testing.T, b []byte) flaw {
	t.Helper()
	want, f := look(b)
	got, err := image.Decode(b)
	if f != fine {
		checkFault(t, b, got, err, f)
		return f
	}
	if err != nil || !alike(got, want) {
		t.Fatalf("Decode(% x) = %+v, %v, want %+v", b, got, err, want)
	}
	if again, e := image.Encode(got); e != api.OK || !bytes.Equal(again, b) {
		t.Fatalf("Encode(Decode(% x)) = % x, %d", b, again, e)
	}
	return fine
}

func checkFault(t *testing.T, b []byte, got api.State, err error, want flaw) {
	t.Helper()
	f, ok := err.(*api.Fault)
	if !ok || f == nil || *f != (api.Fault{Code: want.code, At: want.at}) || !reflect.DeepEqual(got, api.State{}) {
		t.Fatalf("Decode(% .60x) of %d bytes = %+v, %v, want %d at %d", b, len(b), got, err, want.code, want.at)
	}
}

// expectFault holds Decode to a fault that is written out, and the model too.
func expectFault(t *testing.T, name string, b []byte, code api.Errno, at int) {
	t.Helper()
	if f := checkBytes(t, b); f != (flaw{code, at}) {
		t.Errorf("%s: the model tells %v, want %d at %d", name, f, code, at)
	}
}
