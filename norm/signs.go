package norm

import "berth/api"

// sign is how a condition is made into a plan part.
type sign int

const (
	plain sign = iota
	negated
)

// other is the sign below a negation.
func (s sign) other() sign { return negated - s }

// otherIf is the sign of what is said the other way round: by != and not by ==, by apart and not by near.
func (s sign) otherIf(round bool) sign {
	if round {
		return s.other()
	}
	return s
}

// step is what becomes of a sign on the way from a part down to its kids.
type step int

const (
	kept step = iota
	turned
	dropped // a selector is made unnegated, whatever stands round it
)

// stepOf is the step that leads down from a part of this kind. What a term's parts have for signs is asked by nobody, but for a count's selector.
func stepOf(kind api.Kind) step {
	switch kind {
	case api.KNot:
		return turned
	case api.KNear, api.KApart, api.KCount:
		return dropped
	}
	return kept
}

// after is the sign that is left of s behind a step.
func (d step) after(s sign) sign {
	switch d {
	case turned:
		return s.other()
	case dropped:
		return plain
	}
	return s
}

// signsOf are the signs of all parts of a tree. Kids stand ahead of their part: so, from the last part on, a part's sign is there when its kids need it.
func signsOf(parts []api.Part) []sign {
	signs := make([]sign, len(parts))
	for at := len(parts) - 1; at >= 0; at-- {
		down := stepOf(parts[at].Kind)
		for _, kid := range parts[at].Kids {
			signs[kid] = down.after(signs[at])
		}
	}
	return signs
}
