package gen_test

import (
	"fmt"
	"slices"
	"strings"
	"testing"

	"berth/api"
)

// sample is a literal with the code that it has, in which U is its universe.
type sample struct {
	l     api.Lit
	code  string
	depth int
}

// relations are the comparisons that a LitPod of numbers may have.
var relations = []api.Cmp{api.CmpEq, api.CmpLt, api.CmpLe, api.CmpGt, api.CmpGe}

// stillSamples are literals that hang on the pod to be placed alone.
func stillSamples() []sample {
	x, y, n, m := labelTerm(api.OfPod, "a"), nameTerm(api.OfPod), numTerm(api.OfPod, "n"), numTerm(api.OfPod, "m")
	out := []sample{
		{texts(x), `None U`, 1},
		{texts(x, "v"), `PodLabel a; Texts v; Member U`, 2},
		{texts(x, "", "v", "w"), `PodLabel a; Texts "" v w; Member U`, 2},
		{texts(y), `None U`, 1},
		{texts(y, "v"), `PodName; Texts v; Member U`, 2},
		{texts(y, "v", "w"), `PodName; Texts v w; Member U`, 2},
		{nums(n), `None U`, 1},
		{nums(n, 0), `PodLabel n; Int; Nums 0; Among U`, 2},
		{nums(n, -most, -1, 7, most), `PodLabel n; Int; Nums -999999999999999999 -1 7 999999999999999999; Among U`, 2},
		{rel(n, api.CmpLe, 3), `PodLabel n; Int; Num 3; Compare U <=`, 2},
		{rel(n, api.CmpGe, -3), `PodLabel n; Int; Num -3; Compare U >=`, 2},
		{beside(x, api.CmpEq, x), `PodLabel a; PodLabel a; One; Member U`, 2},
		{beside(x, api.CmpEq, labelTerm(api.OfPod, "b")), `PodLabel a; PodLabel b; One; Member U`, 2},
		{beside(labelTerm(api.OfPod, "b"), api.CmpEq, x), `PodLabel b; PodLabel a; One; Member U`, 2},
		{beside(x, api.CmpEq, y), `PodLabel a; PodName; One; Member U`, 2},
		{beside(y, api.CmpEq, x), `PodName; PodLabel a; One; Member U`, 2},
		{beside(y, api.CmpEq, y), `PodName; PodName; One; Member U`, 2},
		{inKeys(textTerm("v"), api.OfPod), `Text v; PodKeys; Member U`, 2},
		{inKeys(textTerm(""), api.OfPod), `Text ""; PodKeys; Member U`, 2},
		{inKeys(x, api.OfPod), `PodLabel a; PodKeys; Member U`, 2},
		{inKeys(y, api.OfPod), `PodName; PodKeys; Member U`, 2},
	}
	for _, c := range relations {
		out = append(out, sample{beside(n, c, m), `PodLabel n; Int; PodLabel m; Int; Compare U ` + cmpMarks[c], 2}, sample{beside(n, c, n), `PodLabel n; Int; PodLabel n; Int; Compare U ` + cmpMarks[c], 2})
	}
	return out
}

// movingSamples are literals that may stand where side moves.
func movingSamples(side api.Side) []sample {
	x, y, n := labelTerm(side, "a"), nameTerm(side), numTerm(side, "n")
	m, own, self := numTerm(api.OfPod, "m"), labelTerm(api.OfPod, "b"), nameTerm(api.OfPod)
	out := []sample{
		{texts(x), `None U`, 1},
		{texts(x, "v"), `Texts v; Label U a`, 1},
		{texts(x, "", "v", "w"), `Texts "" v w; Label U a`, 1},
		{texts(labelTerm(side, ""), "v"), `Texts v; Label U ""`, 1},
		{texts(y), `None U`, 1},
		{texts(y, "v"), `Texts v; Name U`, 1},
		{texts(y, "v", "w"), `Texts v w; Name U`, 1},
		{nums(n), `None U`, 1},
		{nums(n, 0), `Nums 0; NumberIn U n`, 1},
		{nums(n, -7, 0, 8), `Nums -7 0 8; NumberIn U n`, 1},
		{rel(n, api.CmpLe, -most-1), `Num -1000000000000000000; Number U n <=`, 1},
		{rel(n, api.CmpGe, most+1), `Num 1000000000000000000; Number U n >=`, 1},
		{beside(x, api.CmpEq, own), `PodLabel b; One; Label U a`, 1},
		{beside(x, api.CmpEq, labelTerm(api.OfPod, "a")), `PodLabel a; One; Label U a`, 1},
		{beside(x, api.CmpEq, self), `PodName; One; Label U a`, 1},
		{beside(y, api.CmpEq, own), `PodLabel b; One; Name U`, 1},
		{beside(y, api.CmpEq, self), `PodName; One; Name U`, 1},
		{inKeys(x, api.OfPod), `PodKeys; Label U a`, 1},
		{inKeys(y, api.OfPod), `PodKeys; Name U`, 1},
		{inKeys(textTerm("v"), side), `Text v; One; Has U`, 1},
		{inKeys(textTerm(""), side), `Text ""; One; Has U`, 1},
		{inKeys(own, side), `PodLabel b; One; Has U`, 1},
		{inKeys(self, side), `PodName; One; Has U`, 1},
	}
	for _, c := range relations {
		out = append(out, sample{beside(n, c, m), `PodLabel m; Int; Number U n ` + cmpMarks[c], 1})
	}
	return out
}

// nodeSamples are literals that stand for nodes alone; the selector is s in the place 0.
func nodeSamples() []sample {
	const sel = `Texts 1; Label 1 x; `
	cpu, z, m := capTerm("cpu"), countTerm("z", 0), numTerm(api.OfPod, "m")
	out := []sample{
		{nums(cpu), `None 0`, 1},
		{nums(cpu, 4), `Nums 4; CapIn cpu`, 1},
		{nums(cpu, 0, 4, 5), `Nums 0 4 5; CapIn cpu`, 1},
		{rel(cpu, api.CmpLe, 4), `Num 4; Cap cpu <=`, 1},
		{rel(cpu, api.CmpGe, 4), `Num 4; Cap cpu >=`, 1},
		{nums(z), `None 0`, 1},
		{nums(z, 4), sel + `Nums 4; CountIn z`, 2},
		{nums(z, -1, 4, 5), sel + `Nums -1 4 5; CountIn z`, 2},
		{rel(z, api.CmpLe, 4), sel + `Num 4; Count z <=`, 2},
		{rel(z, api.CmpGe, 4), sel + `Num 4; Count z >=`, 2},
		{inTaints(textTerm("v")), `Text v; One; Taint`, 1},
		{inTaints(textTerm("")), `Text ""; One; Taint`, 1},
		{inTaints(labelTerm(api.OfPod, "b")), `PodLabel b; One; Taint`, 1},
		{inTaints(nameTerm(api.OfPod)), `PodName; One; Taint`, 1},
		{tol("NoSchedule"), `Tolerated NoSchedule`, 1},
		{tol(""), `Tolerated ""`, 1},
		{tol("any text"), `Tolerated "any text"`, 1},
		{near("z", 0), sel + `Near z`, 1},
		{near("", 0), sel + `Near ""`, 1},
	}
	for _, c := range relations {
		out = append(out, sample{beside(cpu, c, m), `PodLabel m; Int; Cap cpu ` + cmpMarks[c], 1}, sample{beside(z, c, m), sel + `PodLabel m; Int; Count z ` + cmpMarks[c], 2})
	}
	return out
}

func forNodes() []sample {
	return slices.Concat(stillSamples(), movingSamples(api.OfNode), nodeSamples())
}
func forIts() []sample { return slices.Concat(stillSamples(), movingSamples(api.OfIt)) }

func (x sample) in(u int) string { return strings.ReplaceAll(x.code, " U", fmt.Sprint(" ", u)) }

// P19.1, P19.3: each literal by each of its terms: of the pod, of the node, of the bound pod, with sets of no, one and many elements.
func TestLiterals(t *testing.T) {
	for _, x := range forNodes() {
		expect(t, dag(s, leaf(x.l)), x.in(0)+`; End`, x.depth, 0)
		expect(t, dag(s, leaf(x.l), node(api.DNot, 1)), x.in(0)+`; Not; End`, x.depth, 0)
	}
	for _, x := range forIts() {
		expect(t, dag(forPods(leaf(x.l)), leaf(near("z", 0))), x.in(1)+`; Near z; End`, x.depth, 0)
		expect(t, dag(forPods(leaf(x.l)), leaf(rel(countTerm("z", 0), api.CmpLe, 1))), x.in(1)+`; Num 1; Count z <=; End`, 2, 0)
	}
}

// P19.1: two literals beside one another, each pair: as they stand alone, with a jump between.
func TestPairsOfLiterals(t *testing.T) {
	all := forNodes()
	for _, x := range all {
		for _, y := range all {
			if selects(x.l) && selects(y.l) {
				continue // one selector for both: it is saved
			}
			end := strings.Count(x.code, ";") + strings.Count(y.code, ";") + 4
			code := fmt.Sprintf("%s; JumpNone %d; %s; And; End", x.in(0), end, y.in(0))
			expect(t, dag(s, leaf(x.l), leaf(y.l), node(api.DAnd, 1, 2)), code, max(x.depth, 1+y.depth), 0)
		}
	}
}

func selects(l api.Lit) bool { return l.Kind == api.LitNear || l.Term.Kind == api.TermCount }

// P19.1: each literal saved, for nodes and for pods.
func TestSavedLiterals(t *testing.T) {
	for _, x := range forNodes() {
		at := strings.Count(x.code, ";")
		expect(t, dag(s, leaf(x.l), node(api.DOr, 1, 1)), fmt.Sprintf("%s; Save 0; Load 0; JumpAll %d; Load 0; Or; End", x.in(0), at+6), max(2, x.depth), 1)
	}
	for _, x := range forIts() {
		expect(t, dag(forPods(leaf(x.l)), leaf(near("z", 0)), leaf(near("y", 0)), node(api.DAnd, 1, 2)), fmt.Sprintf("%s; Save 0; Load 0; Near z; JumpNone %d; Load 0; Near y; And; End", x.in(1), strings.Count(x.code, ";")+8), max(2, x.depth), 1)
	}
}
