import Derived.Test.YtfbagkajbnomoaaQ10
namespace Go.Proofs.Ytfbagkajbnomoaa.L
open Go.RowKit Rg Qu
set_option linter.unusedVariables false
set_option linter.unusedSimpArgs false
theorem row_cell {W : World} {B g cp : Nat} {e : TypeId} {l : List Wt} (h : W.ownsRow B e 6 (.slice (some ⟨g, 0, none⟩) l.length cp) l.length (rowX wtV l)) {k : Nat} (hk : k < l.length) {q : Nat} (hq : q < 6) : W.cell? ⟨g, k * 6 + q, none⟩ = some ((wtV l[k]).getD q undef) := by
  have h5 := h.cells (g := g) rfl (k * 6 + q) _ (rowX_at wtV_size l hk hq)
  rw [Go.WideShapes.add_plain, Nat.zero_add] at h5
  rw [h5, List.getD_eq_getElem?_getD, List.getElem?_eq_getElem hk]
  rfl
theorem row_soft {W : World} {B g cp n : Nat} {e : TypeId} {xs : List Value} (h : W.ownsRow B e 6 (.slice (some ⟨g, 0, none⟩) n cp) n xs) (j : Nat) : W.frozen? ⟨g, j, none⟩ = false := by
  obtain ⟨cur, hg, _⟩ := own_getD h
  simp [World.frozen?, hg]
theorem row_setc {W : World} {B g cp : Nat} {e : TypeId} {l l2 : List Wt} (h : W.ownsRow B e 6 (.slice (some ⟨g, 0, none⟩) l.length cp) l.length (rowX wtV l)) {k : Nat} (hk : k < l.length) {q : Nat} (hq : q < 6) (u : Value) (y : Wt) (hy : wtV y = (wtV l[k]).setIfInBounds q u) (hl : l2 = l.set k y) : (W.setCell ⟨g, k * 6 + q, none⟩ u).ownsRow B e 6 (.slice (some ⟨g, 0, none⟩) l2.length cp) l2.length (rowX wtV l2) ∧ W.grownBy (W.setCell ⟨g, k * 6 + q, none⟩ u) (some g) := by
  subst hl
  obtain ⟨cur, hg, _⟩ := own_getD h
  refine ⟨?_, ?_⟩
  · have e1 := own_setG wtV_size u y h hk hq (by rw [hy, List.getD_eq_getElem?_getD, List.getElem?_eq_getElem hk]; rfl)
    rw [List.length_set]
    exact e1
  · rw [setCell_eq_setRow _ _ _ _ _ _ _ hg]
    exact ⟨rfl, rfl, rfl, by simp, fun j hj hne => setRow_other _ _ _ _ (fun e => hne (by rw [e]))⟩
theorem gb_trans {W W1 W2 : World} {g : Option Nat} (h : W.grownBy W1 g) (k : W1.grownBy W2 g) : W.grownBy W2 g :=
  ⟨k.os.trans h.os, k.tape.trans h.tape, k.output.trans h.output, Nat.le_trans h.size k.size, fun j hj hn => (k.block j (Nat.lt_of_lt_of_le hj h.size) hn).trans (h.block j hj hn)⟩
def prkX (x : Wt) (now : Int) : Wt := { x with tries := if x.tries < 1099511627776 then x.tries + 1 else x.tries, asl := true, til := now + wts (if x.tries < 1099511627776 then x.tries + 1 else x.tries) }
theorem prk_set {l : List Wt} {k : Nat} (hk : k < l.length) (now : Int) : prk l k now = l.set k (prkX l[k] now) := by
  unfold prk prkX
  rw [List.getElem?_eq_getElem hk]
set_option maxHeartbeats 4000000 in
set_option maxRecDepth 100000 in
theorem parkp_any {w : World} {B g cp : Nat} {l : List Wt} (h : w.ownsRow B 63 6 (.slice (some ⟨g, 0, none⟩) l.length cp) l.length (rowX wtV l)) {k : Nat} (hk : k < l.length) (now : Int) (h0 : 0 ≤ now) (h1 : now ≤ 1099511627776) (ht : 0 ≤ l[k].tries ∧ l[k].tries ≤ 1099511627776) :
    Calls Try.prog 37 #[.pointer (some ⟨g, k * 6, none⟩), .int .i64 now] w fun e w' => e = .returned (.tuple #[]) ∧ w'.ownsRow B 63 6 (.slice (some ⟨g, 0, none⟩) (prk l k now).length cp) (prk l k now).length (rowX wtV (prk l k now)) ∧ w.grownBy w' (some g) := by
  have c3 : w.cell? ⟨g, k * 6 + 3, none⟩ = some (.int .i64 l[k].tries) := row_cell h hk (by decide)
  have c4 : w.cell? ⟨g, k * 6 + 4, none⟩ = some (.int .i64 l[k].til) := row_cell h hk (by decide)
  have c5 : w.cell? ⟨g, k * 6 + 5, none⟩ = some (.bool l[k].asl) := row_cell h hk (by decide)
  have fz := row_soft h
  have HH := hid h
  obtain ⟨x, hx⟩ : ∃ x, x = l[k]'hk := ⟨_, rfl⟩
  rw [← hx] at c3 c4 c5 ht
  have g2 : IntKind.i64.wrap (x.tries + 1) = x.tries + 1 := by rw [IntKind.wrap_i64]; omega
  have fin := hid (show ∀ t : Int, t = (if x.tries < 1099511627776 then x.tries + 1 else x.tries) → ∀ z : Int, z = now + wts t →
      (((w.setCell ⟨g, k * 6 + 3, none⟩ (.int .i64 t)).setCell ⟨g, k * 6 + 4, none⟩ (.int .i64 z)).setCell ⟨g, k * 6 + 5, none⟩ (.bool true)).ownsRow B 63 6 (.slice (some ⟨g, 0, none⟩) (prk l k now).length cp) (prk l k now).length (rowX wtV (prk l k now)) ∧ w.grownBy (((w.setCell ⟨g, k * 6 + 3, none⟩ (.int .i64 t)).setCell ⟨g, k * 6 + 4, none⟩ (.int .i64 z)).setCell ⟨g, k * 6 + 5, none⟩ (.bool true)) (some g) from fun t e1 z e2 => by
    have s1 := row_setc h hk (q := 3) (by decide) (.int .i64 t) { l[k] with tries := t } rfl rfl
    have k1 : k < (l.set k { l[k] with tries := t }).length := by rw [List.length_set]; exact hk
    have s2 := row_setc s1.1 k1 (q := 4) (by decide) (.int .i64 z) { l[k] with tries := t, til := z } (by rw [List.getElem_set_self]; rfl) rfl
    have k2 : k < ((l.set k { l[k] with tries := t }).set k { l[k] with tries := t, til := z }).length := by rw [List.length_set]; exact k1
    have s3 := row_setc s2.1 k2 (q := 5) (by decide) (.bool true) { l[k] with tries := t, til := z, asl := true } (by rw [List.getElem_set_self]; rfl) (l2 := prk l k now) (by
      rw [prk_set hk, List.set_set, List.set_set]
      congr 1
      unfold prkX
      rw [← hx, ← e1, e2])
    exact ⟨s3.1, gb_trans s1.2 (gb_trans s2.2 s3.2)⟩)
  clear h hx hk
  by_cases hlt : x.tries < 1099511627776
  · have hw := wts_le (x.tries + 1)
    have HW := hid (wait_any (x.tries + 1) (by omega) (by omega))
    have g3 : IntKind.i64.wrap (now + wts (x.tries + 1)) = now + wts (x.tries + 1) := by rw [IntKind.wrap_i64]; omega
    have g4 : x.tries + 1 ≤ 1099511627776 := by omega
    have FN := hid (fin.out (x.tries + 1) (by rw [if_pos hlt]) (now + wts (x.tries + 1)) rfl)
    clear fin
    go_enter Try.func37, Try.ntmps37
    go_wp2_with fail
    refine (HW.out _).mono ?_
    rintro e w2 ⟨rfl, rfl⟩
    go_wp2_with fail
    go_end0
    exact ⟨by first | rfl | simp, FN.out⟩
  · have he : x.tries = 1099511627776 := by omega
    have HW := hid (wait_any 1099511627776 (by omega) (by omega))
    have hw := wts_le 1099511627776
    have g3 : IntKind.i64.wrap (now + wts 1099511627776) = now + wts 1099511627776 := by rw [IntKind.wrap_i64]; omega
    have FN := hid (fin.out 1099511627776 (by rw [if_neg hlt, he]) (now + wts 1099511627776) rfl)
    rw [he] at c3 g2
    clear fin ht hlt he
    go_enter Try.func37, Try.ntmps37
    go_wp2_with fail
    refine (HW.out _).mono ?_
    rintro e w2 ⟨rfl, rfl⟩
    go_wp2_with fail
    go_end0
    exact ⟨by first | rfl | simp, FN.out⟩
end Go.Proofs.Ytfbagkajbnomoaa.L
