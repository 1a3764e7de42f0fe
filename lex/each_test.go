package lex_test

import (
	"iter"
	"slices"
	"testing"

	"berth/api"
	"berth/lex"
)

var walked = []string{"", " ", "a", "a b c", `node["zone"]=="a b"`, "!x!=-12", "a # b\n.c", "&", "a b &", "a b &c", `a "b`, `"\q"`, " 007 a", string(make([]byte, 4097))}

// P11.3, R8: an iterator gives the same whenever it is ranged over.
func TestEachTwice(t *testing.T) {
	for _, source := range walked {
		each := lex.Each(source)
		if each == nil {
			t.Fatalf("Each(%.20q) is nil", source)
		}
		want, f := modelScan(source)
		for range 3 {
			if got, err := gone(t, "Each", each); !slices.Equal(got, want) || !same(err, f) {
				t.Errorf("Each(%.20q) gives %v, %v, want %v, %v", source, got, err, want, f)
			}
		}
	}
}

// P11.3, R8: left early behind each one, an iterator gives no more, and all of it the next time.
func TestEachLeft(t *testing.T) {
	for _, source := range walked {
		want, f := modelScan(source)
		most := len(want)
		if f != nil {
			most++
		}
		each := lex.Each(source)
		for stop := 1; stop <= most; stop++ {
			n := 0
			each(func(api.Token, error) bool {
				n++
				return n < stop
			})
			if n != stop {
				t.Errorf("Each(%.20q), left behind %d, gave %d", source, stop, n)
			}
			if got, err := gone(t, "Each", each); !slices.Equal(got, want) || !same(err, f) {
				t.Errorf("Each(%.20q), left behind %d, then gives %v, %v", source, stop, got, err)
			}
		}
	}
}

// P11.3, R8: two walks at one time don't disturb each other, one within the other or step by step.
func TestEachNested(t *testing.T) {
	for _, source := range walked {
		want, f := modelScan(source)
		each := lex.Each(source)
		n := 0
		for token, err := range each {
			if inner, last := gone(t, "Each", each); !slices.Equal(inner, want) || !same(last, f) {
				t.Errorf("Each(%.20q) within itself gives %v, %v", source, inner, last)
			}
			if n < len(want) && (token != want[n] || err != nil) || n >= len(want) && !same(err, f) {
				t.Errorf("Each(%.20q): %d is %v, %v", source, n, token, err)
			}
			n++
		}
		first, stopFirst := iter.Pull2(each)
		second, stopSecond := iter.Pull2(each)
		for ok := true; ok; {
			var a, b api.Token
			var there bool
			a, _, ok = first()
			if b, _, there = second(); a != b || ok != there {
				t.Errorf("Each(%.20q) side by side: %v and %v", source, a, b)
			}
		}
		stopFirst()
		stopSecond()
	}
}
