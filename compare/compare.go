// Package compare says what the six comparisons mean, once for all layers that hold numbers against each other.
package compare

import "berth/api"

// Stands: does a stand so to b? For a cmp that is none of the six it does not.
func Stands(a int, cmp api.Cmp, b int) bool {
	switch cmp {
	case api.CmpEq:
		return a == b
	case api.CmpNe:
		return a != b
	case api.CmpLt:
		return a < b
	case api.CmpLe:
		return a <= b
	case api.CmpGt:
		return a > b
	case api.CmpGe:
		return a >= b
	}
	return false
}
