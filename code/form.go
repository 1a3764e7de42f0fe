package code

import (
	"cmp"
	"slices"

	"berth/api"
)

// mostNumber is the greatest short number; the least one is its negation.
const mostNumber = 1_000_000_000_000_000_000

// hasForm asks for the numbers of elements first, so that what is far too great is refused without being gone through.
func hasForm(p api.Program) bool {
	return within(p.Depth, 0, api.MaxDeep) && within(p.Locals, 0, api.MaxLocals) &&
		len(p.Texts)+len(p.Nums)+len(p.Sets)+len(p.NumSets) <= api.MaxPool && len(p.Code) <= api.MaxCode &&
		rises(p.Texts, isShortText, cmp.Compare[string]) &&
		rises(p.Nums, isShortNumber, cmp.Compare[int]) &&
		rises(p.Sets, isTextSet, slices.Compare[[]string]) &&
		rises(p.NumSets, isNumberSet, slices.Compare[[]int]) &&
		haveForm(p.Code)
}

func within(n, least, most int) bool { return least <= n && n <= most }

// rises: whether each element may stand in the list, and is greater than the one ahead of it.
func rises[T any](list []T, may func(T) bool, compare func(T, T) int) bool {
	for i, element := range list {
		if !may(element) || i > 0 && compare(list[i-1], element) >= 0 {
			return false
		}
	}
	return true
}

func isShortText(text string) bool { return len(text) <= api.MaxText }

func isShortNumber(n int) bool { return within(n, -mostNumber, mostNumber) }

func isTextSet(set []string) bool {
	return within(len(set), 1, api.MaxParts) && rises(set, isShortText, cmp.Compare[string])
}

func isNumberSet(set []int) bool {
	return within(len(set), 1, api.MaxParts) && rises(set, isShortNumber, cmp.Compare[int])
}

func haveForm(code []api.Instr) bool {
	for _, i := range code {
		if !within(int(i.Op), int(api.OpNone), int(api.OpEnd)) || !operandsFit(i) {
			return false
		}
	}
	return true
}

func operandsFit(i api.Instr) bool {
	operands := [3]int{i.A, i.B, i.C}
	for k, used := range uses(i.Op) {
		if used && !within(operands[k], 0, mostOperand) || !used && operands[k] != 0 {
			return false
		}
	}
	return true
}
