import Derived.Test.YtnclpdgbjefpmaaEu
namespace Go.Proofs.Ytnclpdgbjefpmaa.L
open Go.RowKit
set_option linter.unusedVariables false
set_option linter.unusedSimpArgs false
theorem below_kp {g m : Nat} {W W' : World} (k : Kp (g + 1) g W W') (hm : m ≤ g) : Below m W W' :=
  ⟨k.os, k.tape, k.output, k.size, fun j hj => k.old j (by omega) (by omega)⟩
theorem own_base {W : World} {b b' : Nat} {v : Value} {l : List UInt8} (h : OwnB W b v l) (hb : b' ≤ b) : OwnB W b' v l := by
  refine ⟨h.1, ?_⟩
  rcases h.2 with ⟨e, n0⟩ | ⟨g, cap, cur, e, hg, r⟩
  · exact Or.inl ⟨e, n0⟩
  · exact Or.inr ⟨g, cap, cur, e, Nat.le_trans hb hg, r⟩
set_option maxHeartbeats 8000000 in
set_option maxRecDepth 100000 in
theorem encode_any (p : Pg) (pv : Array Value) (w : World) (hR : PgR w pv p) (hg : GdP p) :
    Calls Try.prog 11 #[.agg pv] w fun e w' => Below w.heap.size w w' ∧ (formB p = false → e = .returned (.tuple #[.slice none 0 0, .int .i64 207])) ∧ (formB p = true → ∃ v', e = .returned (.tuple #[v', .int .i64 0]) ∧ OwnB w' w.heap.size v' (enc p)) := by
  obtain ⟨a0, c0, a1, c1, a2, c2, a3, c3, a4, c4, hpv, r0, r1, r2, r3, r4⟩ := hR.ex
  clear r0 r1 r2 r3 r4
  have HX := hid (heap_alloc_new w (.cells pv 30))
  have HB := hid (belowA w (.cells pv 30))
  have HR := hid (hR.low HB.out)
  have HF := hid (hasform_any pv p (w.alloc (.cells pv 30)) HR.out hg)
  have HPV := hid hpv
  have HRW := hid hR
  have h0 : p.tx.length ≤ maxLen := by have := hg.tx; unfold maxLen; omega
  have h1 : p.nu.length ≤ maxLen := by have := hg.nu; unfold maxLen; omega
  have h2 : p.st.length ≤ maxLen := by have := hg.st; unfold maxLen; omega
  have h3 : p.ns.length ≤ maxLen := by have := hg.ns; unfold maxLen; omega
  have h4 : p.cd.length ≤ maxLen := by have := hg.cd; unfold maxLen; omega
  clear hR
  subst hpv
  obtain ⟨fb, hfb⟩ : ∃ fb, formB p = fb := ⟨_, rfl⟩
  rw [hfb] at HF ⊢
  have HFB := hid hfb
  clear hfb
  go_enter Try.func11, Try.ntmps11
  go_upto_region 1 with fail
  obtain ⟨W, hW⟩ : ∃ W, W = w.alloc (.cells #[.slice a0 p.tx.length c0, .slice a1 p.nu.length c1, .slice a2 p.st.length c2, .slice a3 p.ns.length c3, .slice a4 p.cd.length c4, .int .i64 p.dep, .int .i64 p.loc] 30) := ⟨_, rfl⟩
  rw [← hW] at HX HB HR HF ⊢
  have HS := hid (show w.heap.size < W.heap.size from lt_blk HX.out)
  clear hW
  obtain ⟨q, hq⟩ : ∃ q, q = w.heap.size := ⟨_, rfl⟩
  rw [← hq] at HX HS ⊢
  have HQ := hid hq
  clear hq
  have x0 : W.cell? ⟨q, 0, none⟩ = some (.slice a0 p.tx.length c0) := cell_of_row _ _ 0 _ _ _ HX.out
  have x1 : W.cell? ⟨q, 1, none⟩ = some (.slice a1 p.nu.length c1) := cell_of_row _ _ 1 _ _ _ HX.out
  have x2 : W.cell? ⟨q, 2, none⟩ = some (.slice a2 p.st.length c2) := cell_of_row _ _ 2 _ _ _ HX.out
  have x3 : W.cell? ⟨q, 3, none⟩ = some (.slice a3 p.ns.length c3) := cell_of_row _ _ 3 _ _ _ HX.out
  have x4 : W.cell? ⟨q, 4, none⟩ = some (.slice a4 p.cd.length c4) := cell_of_row _ _ 4 _ _ _ HX.out
  have x5 : W.cell? ⟨q, 5, none⟩ = some (.int .i64 p.dep) := cell_of_row _ _ 5 _ _ _ HX.out
  have x6 : W.cell? ⟨q, 6, none⟩ = some (.int .i64 p.loc) := cell_of_row _ _ 6 _ _ _ HX.out
  go_wp2_with fail
  refine HF.out.mono ?_
  rintro e w1 ⟨rfl, h1b⟩
  have HW1 := hid h1b
  clear h1b
  cases fb with
  | false =>
    go_wp2_with fail
    refine bodyPost_ret (results_tmp2 rfl _ _ _) rfl ?_
    exact ⟨bch HB.out HW1.out, rfl⟩
  | true =>
    have HX := hid ((HW1.out.block _ (lt_blk HX.out)).trans HX.out)
    have HB := hid (bch HB.out HW1.out)
    have HS := hid (Nat.lt_of_lt_of_le HS.out HW1.out.size)
    clear HW1 HF x0 x1 x2 x3 x4 x5 x6
    go_upto_region 4 with fail
    have HX2 := hid (heap_alloc_new w1 (.cells #[.slice none 0 0] 62))
    have HB2 := hid (belowA w1 (.cells #[.slice none 0 0] 62))
    have HX := hid ((HB2.out.block _ (lt_blk HX.out)).trans HX.out)
    have HB3 := hid (bch HB.out HB2.out)
    obtain ⟨W2, hW2⟩ : ∃ W2, W2 = w1.alloc (.cells #[.slice none 0 0] 62) := ⟨_, rfl⟩
    have HS2 := hid (show W2.heap.size = w1.heap.size + 1 by rw [hW2]; simp)
    rw [← hW2] at HX2 HB2 HB3 HX ⊢
    clear hW2
    obtain ⟨g, hgg⟩ : ∃ g, g = w1.heap.size := ⟨_, rfl⟩
    rw [← hgg] at HX2 HS2 HS ⊢
    have HG := hid hgg
    clear hgg
    have HV := hid (show Wv (g + 1) g (.slice none 0 0) [] W2 from ⟨HX2.out, World.ownsRow_nil _ _ _ _, by omega, by have := HS2.out; omega⟩)
    have HP := hid (program_any p _ (g + 1) g _ W2 ⟨w, by have := HB3.out; exact this, by have := HS.out; have := HQ.out; omega, HRW.out⟩ ((formB_iff p).1 HFB.out) HV.out)
    have x0 : W2.cell? ⟨q, 0, none⟩ = some (.slice a0 p.tx.length c0) := cell_of_row _ _ 0 _ _ _ HX.out
    have x1 : W2.cell? ⟨q, 1, none⟩ = some (.slice a1 p.nu.length c1) := cell_of_row _ _ 1 _ _ _ HX.out
    have x2 : W2.cell? ⟨q, 2, none⟩ = some (.slice a2 p.st.length c2) := cell_of_row _ _ 2 _ _ _ HX.out
    have x3 : W2.cell? ⟨q, 3, none⟩ = some (.slice a3 p.ns.length c3) := cell_of_row _ _ 3 _ _ _ HX.out
    have x4 : W2.cell? ⟨q, 4, none⟩ = some (.slice a4 p.cd.length c4) := cell_of_row _ _ 4 _ _ _ HX.out
    have x5 : W2.cell? ⟨q, 5, none⟩ = some (.int .i64 p.dep) := cell_of_row _ _ 5 _ _ _ HX.out
    have x6 : W2.cell? ⟨q, 6, none⟩ = some (.int .i64 p.loc) := cell_of_row _ _ 6 _ _ _ HX.out
    go_wp2_with fail
    refine HP.out.mono ?_
    rintro e w3 ⟨rfl, ⟨v3, k1⟩, k2⟩
    have HV3 := hid k1
    have HK3 := hid k2
    have y : w3.cell? ⟨g, 0, none⟩ = some v3 := cell_of_row _ _ 0 _ _ _ k1.box
    obtain ⟨va, n, vc, rfl⟩ : ∃ va n vc, v3 = .slice va n vc := by obtain ⟨x, y, e⟩ := ownb_form k1.own; exact ⟨_, _, _, e⟩
    clear k1 k2 x0 x1 x2 x3 x4 x5 x6
    go_wp2_with fail
    refine bodyPost_ret (results_tmp2 rfl _ _ _) rfl ?_
    refine ⟨HB3.out.trans (below_kp HK3.out (by have := HS.out; have := HQ.out; omega)), _, rfl, ?_⟩
    have := HV3.out.own
    exact own_base this (by have := HS.out; have := HQ.out; omega)
end Go.Proofs.Ytnclpdgbjefpmaa.L
