package vm_test

import (
	"fmt"
	"testing"

	"berth/api"
)

var every = []int{0, 1, 2, 63, last}

// P22.1: OpNone and OpAll, of nodes and of pods.
func TestNoneAndAll(t *testing.T) {
	b := ordinary(t)
	b.wants(t, someone(), "none 0; end")
	b.wants(t, someone(), "all 0; end", every...)
	b.wantsPods(t, someone(), "none 1", "")
	b.wantsPods(t, someone(), "all 1", "pqrs")
}

// P22.1: texts and sets of them, of the program: OpText, OpTexts, OpOne, and the Ops that take texts.
func TestOpsOfTexts(t *testing.T) {
	b := ordinary(t)
	for source, slots := range map[string][]int{
		"text x; one; label 0 zone; end":      {0, 1},
		"text _; one; label 0 zone; end":      {last},
		"text z; one; label 0 zone; end":      nil,
		"texts x,y; label 0 zone; end":        {0, 1, 2},
		"texts y,_,q; label 0 zone; end":      {2, last},
		"texts x,y; label 0 disk; end":        nil,
		"texts web; label 0 app; end":         nil, // a label of pods
		"texts x,y; label 0 _; end":           nil,
		"texts c,a,p; name 0; end":            {0, 2},
		"texts p,q,_; name 0; end":            nil, // names of pods
		"text d; one; name 0; end":            {63},
		"texts disk; has 0; end":              {1},
		"texts zone,disk,app; has 0; end":     {0, 1, 2, last},
		"text app; one; has 0; end":           nil, // a key of pods
		"texts gpu; taint; end":               {0, 1, 63},
		"texts zone,disk; taint; end":         {2, 63},
		"text zone; one; taint; end":          {2},
		"texts rank,_,NoSchedule; taint; end": nil,
	} {
		b.wants(t, someone(), source, slots...)
	}
	for source, names := range map[string]string{
		"text web; one; label 1 app": "pr",
		"texts db,web; label 1 app":  "pqr",
		"texts x; label 1 zone":      "", // a label of nodes
		"texts y; label 1 zone":      "r",
		"texts r,s,a; name 1":        "rs",
		"text q; one; name 1":        "q",
		"texts a,b; name 1":          "", // names of nodes
		"texts rank; has 1":          "pqr",
		"texts zone,host; has 1":     "r",
		"texts host,disk; has 1":     "", // keys of nodes
	} {
		b.wantsPods(t, someone(), source, names)
	}
}

// P22.1: what the pod says: OpPodLabel, OpPodName, OpPodKeys.
func TestOpsOfThePod(t *testing.T) {
	b := ordinary(t)
	pod := someone()
	b.wants(t, pod, "podlabel zone; one; label 0 zone; end", 0, 1)
	b.wantsPods(t, pod, "podlabel app; one; label 1 app", "pr")
	b.wants(t, pod, "podlabel app; one; label 0 app; end")
	b.wants(t, pod, "podkeys; has 0; end", every...)
	b.wantsPods(t, pod, "podkeys; has 1", "pqr")
	b.wants(t, pod, "podname; one; name 0; end")
	pod.Name = "b"
	b.wants(t, pod, "podname; one; name 0; end", 1)
	b.wantsPods(t, pod, "podname; one; name 1", "")
	pod.Name = "s" // a bound pod's name: that changes nothing
	b.wants(t, pod, "podname; one; name 0; end")
	b.wantsPods(t, pod, "podname; one; name 1", "s")
	b.wantsPods(t, pod, "all 1", "pqrs")
	pod.Labels = tags("disk", "", "zone", "disk")
	b.wants(t, pod, "podkeys; has 0; end", 0, 1, 2, last)
	b.wants(t, pod, "podkeys; taint; end", 2, 63)
	b.wants(t, pod, "podlabel zone; one; taint; end", 63)
	b.wants(t, pod, "podlabel disk; one; label 0 zone; end", last) // the empty value is one
	pod.Labels = nil
	b.wants(t, pod, "podkeys; has 0; end")
	b.wantsPods(t, pod, "podkeys; has 1", "")
}

// P22.1, R12: OpNumber with each Cmp, of nodes and of pods, the number from the program and from the pod; OpNumberIn. Values that are no numbers, and rows without the key, are in neither.
func TestOpsOfNumbers(t *testing.T) {
	b := ordinary(t)
	pods := []string{"p", "q", "", "p", "q", "pq"}
	for k, slots := range [][]int{{0, 63}, {1, last}, {1}, {0, 1, 63}, {last}, {0, 63, last}} {
		b.wants(t, someone(), fmt.Sprintf("num 3; number 0 rank %s; end", marks[k+1]), slots...)
		b.wants(t, someone(), fmt.Sprintf("podlabel rank; int; number 0 rank %s; end", marks[k+1]), slots...)
		b.wants(t, someone(), fmt.Sprintf("text 3; int; number 0 rank %s; end", marks[k+1]), slots...)
		b.wants(t, someone(), fmt.Sprintf("num 3; number 0 zone %s; end", marks[k+1]))
		b.wants(t, someone(), fmt.Sprintf("num 3; number 0 app %s; end", marks[k+1]))
		b.wantsPods(t, someone(), fmt.Sprintf("num 1; number 1 rank %s", marks[k+1]), pods[k])
		b.wantsPods(t, someone(), fmt.Sprintf("num 1; number 1 app %s", marks[k+1]), "")
	}
	b.wants(t, someone(), "nums 3,-5,8; numberin 0 rank; end", 0, 1, 63)
	b.wants(t, someone(), "nums 7,0; numberin 0 rank; end")
	b.wants(t, someone(), "nums 999999999999999; numberin 0 rank; end", last)
	b.wantsPods(t, someone(), "nums 1,9; numberin 1 rank", "p")
	b.wantsPods(t, someone(), "nums 0,4; numberin 1 rank", "")
}

// P22.1: OpCap with each Cmp, and OpCapIn: a node without the resource has 0 of it.
func TestOpsOfCapacities(t *testing.T) {
	b := ordinary(t)
	for k, slots := range [][]int{{0}, {1, 2, 63, last}, {2, 63, last}, {0, 2, 63, last}, {1}, {0, 1}} {
		b.wants(t, someone(), fmt.Sprintf("num 4; cap cpu %s; end", marks[k+1]), slots...)
	}
	for k, slots := range [][]int{{0, 2, 63}, {1, last}, nil, {0, 2, 63}, {1, last}, every} {
		b.wants(t, someone(), fmt.Sprintf("num 0; cap mem %s; end", marks[k+1]), slots...)
	}
	b.wants(t, someone(), "podlabel rank; int; cap cpu >; end", 0, 1)
	b.wants(t, someone(), "num 0; cap nothing ==; end", every...)
	b.wants(t, someone(), "nums 8,0; capin cpu; end", 1, 2, 63, last)
	b.wants(t, someone(), "nums 5,3; capin mem; end", last)
	b.wants(t, someone(), "nums 1; capin nothing; end")
}

// P22.1, R12: OpCount with each Cmp, OpCountIn, OpNear: of all pods, of some, of none; nodes without the key are in none of them.
func TestOpsOfDomains(t *testing.T) {
	b := ordinary(t)
	for k, slots := range [][]int{{2}, {0, 1, last}, {last}, {2, last}, {0, 1}, {0, 1, 2}} {
		b.wants(t, someone(), fmt.Sprintf("all 1; num 1; count zone %s; end", marks[k+1]), slots...)
		b.wants(t, someone(), fmt.Sprintf("all 1; num 1; count app %s; end", marks[k+1])) // a key of pods
	}
	for k, slots := range [][]int{{2, last}, {0, 1}, nil, {2, last}, {0, 1}, {0, 1, 2, last}} {
		b.wants(t, someone(), fmt.Sprintf("texts web; label 1 app; num 0; count zone %s; end", marks[k+1]), slots...)
	}
	b.wants(t, someone(), "all 1; podlabel rank; int; count zone <; end", 0, 1, 2, last)
	b.wants(t, someone(), "none 1; num 0; count zone ==; end", 0, 1, 2, last)
	b.wants(t, someone(), "all 1; nums 2,0,7; countin zone; end", 0, 1, last)
	b.wants(t, someone(), "none 1; nums 1,2; countin zone; end")
	b.wants(t, someone(), "none 1; nums 0; countin rank; end", every...)
	b.wants(t, someone(), "all 1; near zone; end", 0, 1, 2)
	b.wants(t, someone(), "all 1; near rank; end", 0, 1, 2, 63)
	b.wants(t, someone(), "texts q; name 1; near rank; end", 0, 63)
	b.wants(t, someone(), "texts q; name 1; near zone; end")
	b.wants(t, someone(), "texts s; name 1; near zone; end", 2)
	b.wants(t, someone(), "none 1; near host; end")
	b.wants(t, someone(), "all 1; near _; end")
}

// P22.1: OpTolerated of each effect, for pods with and without tolerations.
func TestOpTolerated(t *testing.T) {
	b := ordinary(t)
	for effect, slots := range map[string][3][]int{ // gpu is tolerated, nothing is, everything is
		api.NoSchedule:       {{0, 1, 63, last}, {1, last}, every},
		api.NoExecute:        {every, {0, 2, 63, last}, every},
		api.PreferNoSchedule: {{0, 1, 2, last}, {0, 1, 2, last}, every},
		"Never":              {every, every, every},
		"_":                  {every, every, every},
	} {
		for k, list := range [][]api.Toleration{someone().Tolerations, nil, {{Op: api.Exists}}} {
			b.wants(t, api.Pod{Tolerations: list}, fmt.Sprintf("tolerated %s; end", effect), slots[k]...)
		}
	}
	b.wants(t, api.Pod{Tolerations: []api.Toleration{{Key: "gpu", Op: api.Equal, Value: "x"}}}, "tolerated NoSchedule; end", 0, 1, last)
}

// allOrNone holds code that leaves all or none of u, for both u.
func (b bench) allOrNone(t *testing.T, pod api.Pod, source string, is bool) {
	t.Helper()
	nodes, pods := []int(nil), ""
	if is {
		nodes, pods = every, "pqrs"
	}
	b.wants(t, pod, fmt.Sprintf(source, 0)+"; end", nodes...)
	b.wantsPods(t, pod, fmt.Sprintf(source, 1), pods)
}

// P22.1: OpMember, OpCompare with each Cmp, OpAmong: all that live of u, or none.
func TestOpsOfAllOrNone(t *testing.T) {
	b := ordinary(t)
	for source, is := range map[string]bool{
		"text x; texts y,x; member %d":               true,
		"text z; texts y,x; member %d":               false,
		"text _; texts _; member %d":                 true,
		"text _; texts y,x; member %d":               false,
		"podname; texts a,new; member %d":            true,
		"podlabel app; texts db,web; member %d":      true,
		"podlabel app; texts db; member %d":          false,
		"text app; podkeys; member %d":               true,
		"text web; podkeys; member %d":               false,
		"podlabel app; podlabel app; one; member %d": true,
		"podname; podlabel app; one; member %d":      false,
		"num 3; nums 1,3; among %d":                  true,
		"num 2; nums 1,3; among %d":                  false,
		"podlabel rank; int; nums 1,3; among %d":     true,
		"podlabel rank; int; nums -3,0; among %d":    false,
	} {
		b.allOrNone(t, someone(), source, is)
	}
	for _, x := range []struct {
		first, second int
		is            []bool // by Cmp
	}{
		{3, 3, []bool{true, false, false, true, false, true}},
		{2, 3, []bool{false, true, true, true, false, false}},
		{4, 3, []bool{false, true, false, false, true, true}},
		{-1, 0, []bool{false, true, true, true, false, false}},
		{-9223372036854775808, 9223372036854775807, []bool{false, true, true, true, false, false}},
		{9223372036854775807, -9223372036854775808, []bool{false, true, false, false, true, true}},
	} {
		for k, is := range x.is {
			b.allOrNone(t, someone(), fmt.Sprintf("num %d; num %d; compare %%d %s", x.first, x.second, marks[k+1]), is)
			pod := api.Pod{Labels: tags("l", fmt.Sprint(x.first), "r", fmt.Sprint(x.second))}
			known := x.first > -10 && x.first < 10
			b.allOrNone(t, pod, fmt.Sprintf("podlabel l; int; podlabel r; int; compare %%d %s", marks[k+1]), known && is)
		}
	}
}

// P22.1: OpAnd, OpOr, OpAndNot and OpNot, of nodes and of pods: the first is the lower one.
func TestOpsOfBitmaps(t *testing.T) {
	b := ordinary(t)
	x, y := "texts x; label 0 zone; ", "nums 3; numberin 0 rank; " // 0 1 and 0 63
	b.wants(t, someone(), x+y+"and; end", 0)
	b.wants(t, someone(), x+y+"or; end", 0, 1, 63)
	b.wants(t, someone(), x+y+"andnot; end", 1)
	b.wants(t, someone(), y+x+"andnot; end", 63)
	b.wants(t, someone(), x+"not; end", 2, 63, last)
	b.wants(t, someone(), "all 0; not; end")
	b.wants(t, someone(), "none 0; not; end", every...)
	v, w := "texts web; label 1 app; ", "texts r,q; name 1; " // p r and q r
	b.wantsPods(t, someone(), v+w+"and", "r")
	b.wantsPods(t, someone(), v+w+"or", "pqr")
	b.wantsPods(t, someone(), v+w+"andnot", "p")
	b.wantsPods(t, someone(), w+v+"andnot", "q")
	b.wantsPods(t, someone(), v+"not", "qs")
	b.wantsPods(t, someone(), "all 1; not", "")
	b.wantsPods(t, someone(), "none 1; not", "pqrs")
	b.wants(t, someone(), v+"near host; "+x+"and; end", 0, 1)
}

// P22.1: OpPop takes a cell of any kind, the top one.
func TestOpPop(t *testing.T) {
	b := ordinary(t)
	for _, cell := range []string{"all 0", "all 1", "text x", "podlabel none", "num 3", "podlabel none; int", "texts x", "podkeys", "nums 3"} {
		b.wants(t, someone(), cell+"; pop; texts x; label 0 zone; end", 0, 1)
		b.wants(t, someone(), "texts x; label 0 zone; "+cell+"; pop; end", 0, 1)
	}
}
