package compare

import (
	"math"
	"testing"

	"berth/api"
)

// R12: each of the six, below, at and above, at the ends of int too; a cmp that is none of the six holds nowhere.
func TestStands(t *testing.T) {
	holds := map[api.Cmp][3]bool{ // below, at, above
		api.CmpEq: {false, true, false},
		api.CmpNe: {true, false, true},
		api.CmpLt: {true, false, false},
		api.CmpLe: {true, true, false},
		api.CmpGt: {false, false, true},
		api.CmpGe: {false, true, true},
		0:         {}, 7: {}, -1: {}, 1<<32 + 1: {}, math.MinInt: {}, math.MaxInt: {},
	}
	rising := []int{math.MinInt, math.MinInt + 1, -1, 0, 1, math.MaxInt - 1, math.MaxInt}
	for cmp, want := range holds {
		for i, a := range rising {
			for j, b := range rising {
				at := 1
				if i < j {
					at = 0
				} else if i > j {
					at = 2
				}
				if got := Stands(a, cmp, b); got != want[at] {
					t.Errorf("Stands(%d, %d, %d) = %v", a, cmp, b, got)
				}
			}
		}
	}
}
