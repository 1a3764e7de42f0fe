import Derived.Test.YtnclpdgbjefpmaaGp
namespace Go.Proofs.Ytnclpdgbjefpmaa.L
open Go.RowKit
set_option linter.unusedVariables false
set_option linter.unusedSimpArgs false
/-- Bytes of one's own behind bytes of one's own. -/
theorem wpl_by {w : World} {ops : Array Oper} {rest : List Oper} {o : Oper} {a : Act} {Q : Exit → Act → World → Prop} (hgd : o.guard = none) (s x : Operand)
    (ho : o.op = .call { callee := .builtin .append, args := #[s, x], argTypes := #[32, 32] })
    (base b2 : Nat) (v : Value) (l m : List UInt8) (xa : Option Addr) (cx : Nat) (hs : a.eval s = v) (hown : OwnB w base v l) (hx : a.eval x = .slice xa m.length cx) (hownx : OwnB w b2 (.slice xa m.length cx) m)
    (hm : l.length + m.length ≤ 70368744177664) (hbase : base ≤ w.heap.size)
    (h : ∀ v' w', OwnB w' base v' (l ++ m) → w.grownBy w' v.ownBlock → wpList Try.prog ops Q rest (a.put o.dst v') w') :
    wpList Try.prog ops Q (o :: rest) a w := by
  obtain ⟨i0, hi, hz0, hz1, hz2⟩ := info_parts infoB
  obtain ⟨a', c', e, hbr, _, h1, h2⟩ := own_br hownx
  cases e
  have hno : xa = none → cx = 0 ∧ m.length = 0 := by
    intro hn
    subst hn
    rcases hownx.2 with ⟨e, n0⟩ | ⟨g, cap, cur, e, _⟩
    · simp at e
      exact ⟨e.2, n0⟩
    · simp at e
  refine wpl_app hgd s x 32 ho base 5 i0 (.int .u8 0) 1 1 Try.underlying32 hi hz0 hz1 hz2 rfl (by decide) v l.length (Lib.byteCells l) hs hown xa m.length cx (Lib.byteCells m) hx hno (by rw [Nat.mul_one, byteCells_eq, List.length_map]) (br_news hbr) (by intro u hu; rw [byteCells_eq, List.mem_map] at hu; obtain ⟨z, _, rfl⟩ := hu; rfl) (by unfold maxLen; omega) (by omega) hbase ?_
  intro v' w' ho' hg
  refine h v' w' ?_ hg
  unfold OwnB
  rw [List.length_append, byteCells_eq, List.map_append]
  exact ho'
end Go.Proofs.Ytnclpdgbjefpmaa.L
