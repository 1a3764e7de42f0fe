package gen

import (
	"testing"

	"berth/api"
)

// P19.1: each limit alone, at its edge and one above it; ErrDeep comes ahead of ErrGreat. No dag is great enough to reach MaxCode or MaxPool, so programs are asked about that come from none.
func TestLimits(t *testing.T) {
	code := func(n int) api.Program { return api.Program{Code: make([]api.Instr, n)} }
	pools := func(texts, nums, sets, numSets int) api.Program {
		return api.Program{Texts: make([]string, texts), Nums: make([]int, nums), Sets: make([][]string, sets), NumSets: make([][]int, numSets)}
	}
	for i, x := range []struct {
		p    api.Program
		want api.Errno
	}{
		{api.Program{}, api.OK},
		{api.Program{Depth: 128, Locals: 1024}, api.OK},
		{api.Program{Depth: 129}, api.ErrDeep},
		{api.Program{Locals: 1025}, api.ErrGreat},
		{api.Program{Depth: 129, Locals: 1025}, api.ErrDeep},
		{code(32768), api.OK},
		{code(32769), api.ErrGreat},
		{pools(4096, 0, 0, 0), api.OK},
		{pools(4097, 0, 0, 0), api.ErrGreat},
		{pools(0, 4097, 0, 0), api.ErrGreat},
		{pools(0, 0, 4097, 0), api.ErrGreat},
		{pools(0, 0, 0, 4097), api.ErrGreat},
		{pools(1024, 1024, 1024, 1024), api.OK},
		{pools(1025, 1024, 1024, 1024), api.ErrGreat},
		{pools(1024, 1025, 1024, 1024), api.ErrGreat},
		{pools(1024, 1024, 1025, 1024), api.ErrGreat},
		{pools(1024, 1024, 1024, 1025), api.ErrGreat},
		{api.Program{Code: make([]api.Instr, 32769), Depth: 129}, api.ErrDeep},
		{api.Program{Texts: make([]string, 4097), Depth: 129}, api.ErrDeep},
		// entries of the lists count, not what is in them
		{api.Program{Sets: [][]string{make([]string, 5000)}, NumSets: [][]int{make([]int, 5000)}}, api.OK},
	} {
		if got := overstepped(x.p); got != x.want {
			t.Errorf("%d: %d, want %d", i, got, x.want)
		}
	}
}
