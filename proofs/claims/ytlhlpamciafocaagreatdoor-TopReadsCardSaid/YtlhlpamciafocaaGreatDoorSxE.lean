import Derived.Test.YtlhlpamciafocaaGreatDoorMgBG
namespace Go.Proofs.YtlhlpamciafocaaGreatDoor.L
open Go.RowKit
set_option linter.unusedVariables false
set_option linter.unusedSimpArgs false
theorem shrt_len {T : List Pt} (h : Res T 0 0) (hs : Shrt T T.length) : (S ((txs T T.length).getD (T.length - 1) [])).size ≤ 4096 := by
  rw [S_size]
  exact hs _ (by have := h.ok.1; omega)
theorem res_kids {T : List Pt} (h : Res T 0 0) : T.length ≤ 1000 ∧ ∀ j, j < T.length → (pt T j).kids.length ≤ 1000000 := by
  refine ⟨h.ok.2.1, fun j hj => ?_⟩
  have h1 := (h.ok.2.2.1 j hj).many
  have h2 := fre_len T j
  have h3 := h.ok.2.1
  omega
theorem err_nil {T : List Pt} {B : Nat} {W : World} {ev : Value} (h : Sw.ErrR T B W ev) (hr : Res T 0 0) : ev = .nilIface := by
  rcases h with h | ⟨N, c, i, _, _, _, h, h0⟩
  · exact h.1
  · exact absurd (res_one h hr).1 h0
theorem err_yes {T : List Pt} {B : Nat} {W : World} {ev : Value} (h : Sw.ErrR T B W ev) (hn : ev ≠ .nilIface) : ∃ (N c i : Nat), ev = fv N ∧ Sw.Flt W N c i ∧ B ≤ N ∧ Res T c i ∧ c ≠ 0 := by
  rcases h with h | h
  · exact absurd h.1 hn
  · exact h
theorem run_code (a b c d e f g h i j k l m n o p q r s : Value) (w : World) : (Instr.field 45 (.agg #[a, b, c, d, e, f, g, h, i, j, k, l, m, n, o, p, q, r, s]) 0).run Tryz.prog w = .ok a w := by kernel_rfl
end Go.Proofs.YtlhlpamciafocaaGreatDoor.L
