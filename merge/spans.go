package merge

import (
	"math"

	"berth/api"
)

// span are the numbers from lo to hi. An end that is missing stands where no number of a plan does.
type span struct{ lo, hi int }

const (
	noLo = math.MinInt
	noHi = math.MaxInt
)

func (s span) hasLo() bool { return s.lo != noLo }

func (s span) hasHi() bool { return s.hi != noHi }

func (s span) holds(n int) bool { return s.lo <= n && n <= s.hi }

// within is what a bound leaves of the span.
func (s span) within(l api.Lit, neg bool) span {
	switch {
	case l.Rel == api.CmpGe && !neg:
		s.lo = max(s.lo, l.Num)
	case l.Rel == api.CmpGe:
		s.hi = min(s.hi, l.Num-1)
	case !neg:
		s.hi = min(s.hi, l.Num)
	default:
		s.lo = max(s.lo, l.Num+1)
	}
	return s
}

// shaved moves the ends inward over the barred numbers, which rise and are in the span, and answers those that are left between them.
func (s span) shaved(barred []int) (span, []int) {
	for len(barred) > 0 && barred[0] == s.lo {
		barred = barred[1:]
		s.lo++
	}
	for len(barred) > 0 && barred[len(barred)-1] == s.hi {
		barred = barred[:len(barred)-1]
		s.hi--
	}
	return s, barred
}
