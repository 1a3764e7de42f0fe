package audit_test

import (
	"slices"
	"testing"

	"berth/api"
	"berth/audit"
	"berth/code"
)

// P21.1 to P21.3: random programs that are accepted, and with one thing or two disturbed.
func TestRandomPrograms(t *testing.T) {
	r := newChance(1)
	seen := map[api.Errno]int{}
	ops := map[api.Op]int{}
	for range 12000 {
		p := r.program(one(r, 2, 5, 10, 20, 40))
		if got, _ := try(t, p); got != (fault{}) {
			t.Fatalf("%s: %v", told(p), got)
		}
		for _, i := range p.Code {
			ops[i.Op]++
		}
		seen[api.OK]++
		for range 4 {
			x := p
			for range one(r, 1, 1, 2, 3) {
				x = r.disturb(x)
				if len(x.Code) == 0 {
					break
				}
			}
			got, _ := try(t, x)
			seen[got.code]++
		}
	}
	for number := api.ErrDeclared; number <= api.ErrStop; number++ {
		if seen[number] < 200 {
			t.Errorf("only %d times %d (%v)", seen[number], number, seen)
		}
	}
	for o := api.Op(1); o <= 36; o++ {
		if ops[o] < 200 {
			t.Errorf("only %d times %s", ops[o], lines[o].name)
		}
	}
}

// P21.1, P1: instructions of no order at all, and with an end behind them.
func TestAnyPrograms(t *testing.T) {
	r := newChance(2)
	for range 60000 {
		p := small(one(r, 0, 1, 2, 128, -1), slices.Repeat([]api.Instr{op(api.OpAll)}, r.IntN(3))...)
		for range r.IntN(6) {
			p.Code = append(p.Code, r.any())
		}
		if r.IntN(3) > 0 {
			p.Code = append(p.Code, end())
		}
		p.Locals = one(r, 0, 1, 2, 1024, 1025, -1)
		try(t, p)
	}
}

// P21.1, P21.3: all programs of at most six instructions, of a few of them, with an end behind them.
func TestAllShortPrograms(t *testing.T) {
	seen := map[api.Errno]int{}
	var look func(code []api.Instr)
	look = func(code []api.Instr) {
		few := []api.Instr{op(api.OpAll), op(api.OpAll, 1), op(api.OpNear), op(api.OpAnd), op(api.OpSave), op(api.OpLoad), op(api.OpPop)}
		for target := len(code) + 1; target <= 6; target++ {
			few = append(few, op(api.OpJumpNone, target))
		}
		p := small(2, append(slices.Clone(code), end())...)
		got, _ := try(t, p)
		seen[got.code]++
		if len(code) == 6 || got.code != api.OK && got.at < len(code)-1 && got.code != api.ErrTarget {
			return
		}
		for _, i := range few {
			look(append(slices.Clone(code), i))
		}
	}
	look(nil)
	for _, number := range []api.Errno{api.OK, api.ErrTarget, api.ErrJoin, api.ErrUnder, api.ErrKind, api.ErrLocal, api.ErrOver, api.ErrStop} {
		if seen[number] < 100 {
			t.Errorf("only %d times %d (%v)", seen[number], number, seen)
		}
	}
}

// tryAnyBytes holds Bytes against code.Decode and the model.
func tryAnyBytes(t *testing.T, b []byte) api.Errno {
	t.Helper()
	p, err := code.Decode(b)
	if err == nil {
		want := judge(p)
		tryBytes(t, b, want)
		return want.code
	}
	got, shape, wrong := audit.Bytes(b)
	if f := *err.(*api.Fault); !isFault(wrong, fault{f.Code, f.At}) || shape != (api.Shape{}) || !sameProgram(got, api.Program{}) {
		t.Fatalf("Bytes(% x): %s, %v, %v, want %v", b, told(got), shape, wrong, err)
	}
	return api.ErrCodeProgram
}

// P21.2: programs' bytes with one byte turned, taken out or put in, at one place and at several; and bytes of no order.
func TestTurnedBytes(t *testing.T) {
	r := newChance(3)
	seen := map[api.Errno]int{}
	for range 12000 {
		b, e := code.Encode(r.program(one(r, 2, 5, 15)))
		if e != api.OK {
			t.Fatal(e)
		}
		for range 3 {
			turned := r.turn(b)
			seen[tryAnyBytes(t, turned)]++
			seen[tryAnyBytes(t, r.turn(turned))]++
		}
	}
	for number := api.ErrOperand; number <= api.ErrStop; number++ {
		if seen[number] < 20 {
			t.Errorf("only %d times %d (%v)", seen[number], number, seen)
		}
	}
	for range 20000 {
		b := []byte(one(r, "", "BRT\x01", "BRT\x01\x02\x01\x00\x00\x00\x00\x04", "BRT\x01\x01\x00\x01\x01a\x01\x02\x00\x00\x03"))
		for range r.IntN(12) {
			b = append(b, one(r, 0, 1, 2, 36, byte(r.IntN(40)), byte(r.IntN(256))))
		}
		tryAnyBytes(t, b)
	}
}

// P21.2: each program of each Op, each of its bytes turned into each other one, taken out, and another one put in.
func TestEachByteTurned(t *testing.T) {
	for o := api.Op(1); o <= 36; o++ {
		_, p := setting(o)
		b, _ := code.Encode(p)
		if tryAnyBytes(t, b) != api.OK {
			t.Errorf("%s is refused", told(p))
		}
		for at := range b {
			for x := range 256 {
				turned := slices.Clone(b)
				turned[at] = byte(x)
				tryAnyBytes(t, turned)
			}
			tryAnyBytes(t, slices.Delete(slices.Clone(b), at, at+1))
			for _, x := range []byte{0, 1, 2, 36, 37, 0x80} {
				tryAnyBytes(t, slices.Insert(slices.Clone(b), at, x))
			}
		}
	}
}
