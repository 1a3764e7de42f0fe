package show

import (
	"slices"

	"berth/api"
)

// barred is the place that a list tells which is no tree, its nest left aside; -1 for a tree.
func barred(parts []api.Part) int {
	var alone []int // the places of the parts that are nobody's kids yet
	for i, part := range parts {
		ahead := len(alone) - len(part.Kids)
		if ahead < 0 || !slices.Equal(part.Kids, alone[ahead:]) || !right(parts, part) {
			return i
		}
		alone = append(alone[:ahead], i)
	}
	last := len(parts) - 1
	if len(alone) > 1 || formOf(parts[last].Kind).class != condition {
		return last
	}
	return -1
}

// right: whether a part, whose kids are places in the list, holds what the parts of its kind hold.
func right(parts []api.Part, part api.Part) bool {
	f := formOf(part.Kind)
	for _, kid := range part.Kids {
		if !f.takes(formOf(parts[kid].Kind).class) {
			return false
		}
	}
	return f.fits(part)
}
