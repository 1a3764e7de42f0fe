package gen

import "berth/api"

// savedParts are the places of the parts that are saved, rising: the number of a part's local is where its place stands here.
func savedParts(d api.Dag) []int {
	var saved []int
	for place, uses := range usesOf(d) {
		kind := d.Parts[place].Kind
		if uses >= 2 && kind != api.DTrue && kind != api.DFalse {
			saved = append(saved, place)
		}
	}
	return saved
}

// usesOf: how often each part is used by parts that the Root reaches. What a part uses stands ahead of it, so going down from the Root all uses of a part are known when it is met.
func usesOf(d api.Dag) []int {
	uses := make([]int, len(d.Parts))
	for place := d.Root; place >= 0; place-- {
		if place != d.Root && uses[place] == 0 {
			continue
		}
		part := d.Parts[place]
		for _, kid := range part.Kids {
			uses[kid]++
		}
		if selector, has := selectorOf(part.Lit); has {
			uses[selector]++
		}
	}
	return uses
}

// selectorOf is the place of a literal's selector; false, if it has none.
func selectorOf(l api.Lit) (int, bool) {
	if l.Kind == api.LitNear {
		return l.Sel, true
	}
	if l.Term.Kind == api.TermCount {
		return l.Term.Sel, true
	}
	return 0, false
}
