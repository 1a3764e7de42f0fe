package filter

import (
	"berth/api"
	"berth/gen"
	"berth/merge"
	"berth/norm"
	"berth/share"
)

// programOf is the program of a constraint that Tree answers.
func programOf(tree api.Tree) api.Program {
	plan, _ := norm.Plan(tree, api.OfNode)
	return compiled(plan)
}

// compiled asks for no errors, since no layer refuses what the ones below it make of a tree.
func compiled(plan api.Plan) api.Program {
	small, _ := merge.Merge(plan)
	dag, _ := share.Share(small)
	program, _ := gen.Gen(dag)
	return program
}

// programsOf are those that all must find a node that a checked pod asks for: of its constraint, and of each apart term.
func programsOf(p api.Pod) []api.Program {
	tree, _ := required(p)
	programs := []api.Program{programOf(tree)}
	for _, term := range p.Apart {
		programs = append(programs, compiled(apartPlan(term)))
	}
	return programs
}

// apartPlan is what a constraint apart(Topo, Select) would become (L9). It is put together here, since the tree of such a constraint may be one part or one nest too large where the selector alone is not.
func apartPlan(term api.Apart) api.Plan {
	tree, _ := selector(term)
	pods, _ := norm.Plan(tree, api.OfIt)
	near := api.Lit{Kind: api.LitNear, Key: term.Topo}
	return api.Plan{
		Main: []api.PlanPart{{Kind: api.PLit, Neg: true, Lit: near}},
		Sels: [][]api.PlanPart{pods.Main},
	}
}
