package merge

// crowd are the kids of a joint as they are held against each other: each with its branches, and for each branch's number the places of the kids that have it.
type crowd struct {
	branches [][]*piece
	holders  map[int][]int
	shared   []int // for the kid that is asked about: how many of each other's branches it has
}

func (j joint) crowd(kids []*piece) crowd {
	c := crowd{holders: map[int][]int{}, shared: make([]int, len(kids))}
	for at, kid := range kids {
		branches := j.branches(kid)
		c.branches = append(c.branches, branches)
		for _, branch := range branches {
			c.holders[branch.number] = append(c.holders[branch.number], at)
		}
	}
	return c
}

// branches are the parts of which one must hold, so that the kid does.
func (j joint) branches(kid *piece) []*piece {
	if kid.kind == j.other {
		return kid.kids
	}
	return []*piece{kid}
}

// unabsorbed are the kids that no other makes superfluous. Each is held against all of them, those too that go: in which order they go must not be seen.
func (j joint) unabsorbed(kids []*piece) []*piece {
	c := j.crowd(kids)
	var left []*piece
	for at, kid := range kids {
		if !c.absorbs(at) {
			left = append(left, kid)
		}
	}
	return left
}

// absorbs: another kid has all its branches among those of the one at this place, so that this one holds wherever the other does; of two with the same branches the first one stays. No two branches of a kid are alike: so it is enough to count them.
func (c crowd) absorbs(at int) bool {
	clear(c.shared)
	for _, branch := range c.branches[at] {
		for _, other := range c.holders[branch.number] {
			c.shared[other]++
			among := c.shared[other] == len(c.branches[other])
			fewer := len(c.branches[other]) < len(c.branches[at])
			if among && (fewer || other < at) {
				return true
			}
		}
	}
	return false
}
