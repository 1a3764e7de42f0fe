package vm_test

import (
	"testing"

	"berth/api"
)

// P22.1, P22.2: jumps that are taken and that are not, over bitmaps of nodes and of pods: the steps and the depth are those of the way that was gone.
func TestJumps(t *testing.T) {
	b := ordinary(t)
	pod := someone()
	some, somePods := "texts x; label 0 zone", "texts web; label 1 app"
	for _, x := range []struct {
		source       string
		slots        []int
		steps, depth int
	}{
		{"none 0; jumpnone out; all 0; and; out: end", nil, 3, 1},
		{"all 0; jumpnone out; all 0; and; out: end", every, 5, 2},
		{some + "; jumpnone out; none 0; and; out: end", nil, 6, 2},
		{"none 0; jumpall out; all 0; or; out: end", every, 5, 2},
		{"all 0; jumpall out; none 0; and; out: end", every, 3, 1},
		{some + "; jumpall out; not; out: end", []int{2, 63, last}, 5, 1},
		{"none 1; jumpnone out; not; out: near host; end", nil, 4, 1},
		{somePods + "; jumpnone out; not; out: near host; end", podsAt("qs"), 6, 1},
		{"all 1; jumpnone out; not; out: near host; end", nil, 5, 1},
		{"none 1; jumpall out; not; out: near host; end", podsAt("pqrs"), 5, 1},
		{somePods + "; jumpall out; not; out: near host; end", podsAt("qs"), 6, 1},
		{"all 1; jumpall out; not; out: near host; end", podsAt("pqrs"), 4, 1},
		{"texts p,q,r,s; name 1; jumpall out; not; out: near host; end", podsAt("pqrs"), 5, 1},
		{"none 0; jumpnone out; out: not; end", every, 4, 1},                       // to the next instruction
		{"none 0; jumpnone one; not; one: jumpnone two; not; two: end", nil, 4, 1}, // one behind the other
		{"all 0; jumpnone one; not; one: jumpnone two; not; two: end", nil, 5, 1},
		{"all 0; none 0; jumpnone in; all 0; and; in: or; jumpall out; none 0; and; out: end", every, 6, 2}, // one within the other
		{"all 0; all 0; jumpnone in; none 0; and; in: and; jumpall out; none 0; or; out: end", nil, 10, 3},
		{"all 0; jumpall one; not; one: not; jumpnone two; not; two: end", nil, 5, 1},
		{"all 0; jumpnone out; text x; texts y; member 0; and; jumpnone out; not; out: end", nil, 8, 3}, // two to one place
		{"text x; none 1; jumpnone out; not; out: pop; pop; all 0; end", every, 7, 2},                   // over cells below the bitmap
	} {
		b.wants(t, pod, x.source, x.slots...)
		b.takes(t, pod, x.source, x.steps, x.depth)
	}
}

// P22.2: the depth is that of the fullest stack, wherever it was, and not the one that the program declares.
func TestDepths(t *testing.T) {
	b := ordinary(t)
	pod := someone()
	b.takes(t, pod, "all 0; end", 2, 1)
	b.takes(t, pod, "all 0; all 0; and; end", 4, 2)
	b.takes(t, pod, "all 0; all 0; all 0; and; and; end", 6, 3)
	b.takes(t, pod, "all 0; all 0; and; all 0; and; end", 6, 2)
	b.takes(t, pod, "text x; text x; text x; pop; pop; pop; all 0; end", 8, 3) // at the beginning
	b.takes(t, pod, "all 0; num 1; num 1; compare 0 ==; and; end", 6, 3)
	b.takes(t, pod, "all 0; pop; all 0; pop; all 0; end", 6, 1)
	b.takes(t, pod, "all 0; save 0; load 0; load 0; load 0; and; and; end", 8, 3)
	b.takes(t, pod, "all 1; podlabel rank; int; count zone ==; end", 5, 2)
	p := assemble("all 0; all 0; or; end")
	for _, p.Depth = range []int{2, 3, 17, 128} {
		if _, stat, e := b.try(t, p, pod); e != api.OK || stat != (api.Stat{Steps: 4, Depth: 2}) {
			t.Errorf("Depth %d: %+v, %d", p.Depth, stat, e)
		}
	}
	p.Depth = 1
	refused(t, p, b.x, pod)
}

// P22.1: locals that are loaded again, saved again, saved with another kind; what they hold stays as it was when it was saved.
func TestLocals(t *testing.T) {
	b := ordinary(t)
	pod := someone()
	x, y, pods := "texts x; label 0 zone", "nums 3; numberin 0 rank", "texts web; label 1 app"
	for source, slots := range map[string][]int{
		x + "; save 0; load 0; end":                                                               {0, 1},
		x + "; save 0; " + y + "; save 1; load 0; load 1; andnot; end":                            {1},
		x + "; save 1; " + y + "; save 0; load 0; load 1; andnot; end":                            {63},
		x + "; save 0; load 0; not; load 0; or; end":                                              every,
		x + "; save 0; load 0; not; load 0; and; end":                                             nil,
		x + "; save 0; load 0; none 0; and; pop; load 0; end":                                     {0, 1},
		x + "; save 0; none 0; load 0; and; pop; load 0; end":                                     {0, 1},
		x + "; save 0; load 0; all 0; or; pop; load 0; end":                                       {0, 1},
		x + "; save 0; load 0; load 0; andnot; pop; load 0; end":                                  {0, 1},
		x + "; save 0; load 0; save 1; load 1; not; save 1; load 0; end":                          {0, 1},
		x + "; save 0; " + y + "; save 0; load 0; end":                                            {0, 63},
		x + "; save 0; load 0; not; save 0; load 0; end":                                          {2, 63, last},
		x + "; save 7; load 7; load 7; and; save 7; load 7; end":                                  {0, 1},
		x + "; save 0; " + pods + "; save 0; load 0; near host; end":                              podsAt("pr"),
		pods + "; save 0; load 0; not; near host; load 0; near zone; or; end":                     {0, 1, 2, 63},
		pods + "; save 0; " + x + "; save 0; load 0; not; end":                                    {2, 63, last},
		pods + "; save 0; " + x + "; save 1; load 0; near rank; load 1; and; end":                 {0, 1},
		"all 0; save 0; load 0; none 0; and; pop; all 0; end":                                     every,
		"all 0; none 0; and; pop; all 0; end":                                                     every,
		"all 0; not; pop; all 0; end":                                                             every,
		"none 0; all 0; or; pop; none 0; end":                                                     nil,
		"all 1; none 1; and; pop; all 1; near host; end":                                          podsAt("pqrs"),
		x + "; save 1023; load 1023; end":                                                         {0, 1},
		"all 0; save 0; none 0; jumpnone out; pop; none 0; save 0; none 0; out: pop; load 0; end": every, // what was saved behind the jump isn't
		"all 0; save 0; all 0; jumpnone out; pop; none 0; save 0; none 0; out: pop; load 0; end":  nil,
	} {
		b.wants(t, pod, source, slots...)
	}
}
