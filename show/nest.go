package show

import (
	"slices"

	"berth/api"
)

// nestsOf goes from the whole down: a part stands behind its kids in the list, so its own nest is known ahead of theirs.
func nestsOf(parts []api.Part) []int {
	nests := make([]int, len(parts))
	for i, part := range slices.Backward(parts) {
		for _, kid := range part.Kids {
			nests[kid] = nests[i] + between(part.Kind, parts[kid].Kind)
		}
	}
	return nests
}

// between is how much more stands round a kid than round the part in which it stands.
func between(kind, kid api.Kind) int {
	n := 0
	if opens(kind) {
		n++
	}
	if grouped(kind, kid) {
		n++
	}
	return n
}

// opens: whether a part of this kind is itself one more round its kids.
func opens(kind api.Kind) bool {
	switch kind {
	case api.KNot, api.KNear, api.KApart, api.KCount, api.KInt:
		return true
	}
	return false
}

// grouped: whether a kid stands in parentheses; the texts ask it too, so that nests and texts never differ.
func grouped(kind, kid api.Kind) bool {
	switch kind {
	case api.KNot, api.KAnd:
		return kid == api.KAnd || kid == api.KOr
	case api.KOr:
		return kid == api.KOr
	}
	return false
}

func tooDeep(nest int) bool { return nest > api.MaxNest }
