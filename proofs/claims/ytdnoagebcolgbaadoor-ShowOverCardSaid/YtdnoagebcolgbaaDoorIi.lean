import Derived.Test.YtdnoagebcolgbaaDoorIh
namespace Go.Proofs.YtdnoagebcolgbaaDoor.L
open Go.RowKit Go.Shelf
set_option linter.unusedVariables false
set_option maxHeartbeats 4000000 in
/-- The document's text of a part that is right. -/
theorem rtx_any (a : Option Addr) (T : List Pt) (cap : Nat) (p : Pt) (ka : Option Addr) (kc gt n i : Nat) (X : List (List UInt8)) (w : World)
    (hT : PL w a T) (hk : RdI w ka p.kids) (hin : ∀ x, x ∈ p.kids → 0 ≤ x ∧ x < i) (hi : i ≤ T.length) (hL : T.length ≤ 1000) (hl : p.kids.length ≤ 1000) (hn : i ≤ n) (hn1 : n ≤ 1000)
    (hX : ∀ j, j < i → w.cell? ⟨gt, j, none⟩ = some (.string (S (X.getD j [])))) (hgt : gt < w.heap.size) (hs : ∀ j, j < i → (X.getD j []).length ≤ 4096) (hKB : ∀ x, x ∈ ksL T X p → x.length ≤ 4098)
    (hkb : kidsB p.kind p.kids.length = true) (h1 : 1 ≤ p.kind) (h2 : p.kind ≤ 20) (hh : holdsB p.kind p.text p.num = true) :
    Calls Tryd.prog 26 #[.agg #[.slice a T.length cap], .agg #[.int .i64 p.kind, .string p.text, .int .i64 p.num, .slice ka p.kids.length kc], .slice (some ⟨gt, 0, none⟩) n n] w fun e w' => e = .returned (.string (S (ptx T X p))) ∧ Below w.heap.size w w' := by
  have hJ := fun (W : World) (sep : List UInt8) (hb : Below w.heap.size w W) (hsp : sep.length ≤ 10) => rjoin_any a T cap p ka kc gt n i X sep W (hT.low hb) (hk.low hb (Nat.le_refl _)) hin hi hL hl hn hn1 (fun j hj => (hb.cell (p := ⟨gt, j, none⟩) hgt).trans (hX j hj)) (Nat.lt_of_lt_of_le hgt hb.size) hs hKB hsp
  have hKn : (ksL T X p).length = p.kids.length := by unfold ksL; rw [List.length_map]
  have hJL : ∀ sep : List UInt8, sep.length ≤ 10 → (Lib.join (ksL T X p) sep).length ≤ 5000000 := by
    intro sep hsp
    have := join_le 4098 (sep := sep) hKB (by omega) hsp
    omega
  have ht : p.text.size ≤ 127 := holds_size hh
  have hone : p.kids.length = 1 → p.kind ≠ 3 ∧ p.kind ≠ 4 ∧ p.kind ≠ 5 → ∃ (b1 o1 x : Nat), ka = some ⟨b1, o1, none⟩ ∧ w.cell? ⟨b1, o1, none⟩ = some (.int .i64 (x : Int)) ∧ b1 < w.heap.size ∧ w.cell? ⟨gt, x, none⟩ = some (.string (S (X.getD x []))) ∧ x < n ∧ (X.getD x []).length ≤ 4096 ∧ (ksL T X p).getD 0 [] = X.getD x [] := by
    intro hk1 hne
    obtain ⟨y, hy⟩ : ∃ y, p.kids = [y] := List.length_eq_one_iff.1 hk1
    have hyi := hin y (by rw [hy]; simp)
    rcases hk with h0 | ⟨b1, o1, rfl, hb1, hc⟩
    · omega
    have hc0 := hc 0 (by omega)
    rw [hy] at hc0
    refine ⟨b1, o1, y.toNat, rfl, ?_, hb1, hX _ (by omega), by omega, hs _ (by omega), ?_⟩
    · simpa [show ((y.toNat : Nat) : Int) = y by omega] using hc0
    · unfold ksL
      rw [hy]
      simp [kid_plain T X p.kind y hne]
  obtain ⟨kd, tx, nu, ks⟩ := p
  simp only at *
  have hc : kd = 1 ∨ kd = 2 ∨ kd = 3 ∨ kd = 4 ∨ kd = 5 ∨ kd = 6 ∨ kd = 7 ∨ kd = 8 ∨ kd = 9 ∨ kd = 10 ∨ kd = 11 ∨ kd = 12 ∨ kd = 13 ∨ kd = 14 ∨ kd = 15 ∨ kd = 16 ∨ kd = 17 ∨ kd = 18 ∨ kd = 19 ∨ kd = 20 := by omega
  unfold ptx
  generalize ksL T X ⟨kd, tx, nu, ks⟩ = KS at *
  generalize T.length = L at *
  clear hin hX hs hKB hT
  simp only
  rcases hc with rfl | rfl | rfl | rfl | rfl | rfl | rfl | rfl | rfl | rfl | rfl | rfl | rfl | rfl | rfl | rfl | rfl | rfl | rfl | rfl
  · exact rl_1 a L cap tx nu ka _ kc gt n w ht _ (fun W => leaf_1 tx nu _ W ht)
  · exact rl_2 a L cap tx nu ka _ kc gt n w ht _ (fun W => leaf_2 tx nu _ W ht)
  · obtain ⟨b, rfl⟩ := one_kid (show KS.length = 1 by simp [kidsB] at hkb; omega)
    have := rt_3 a L cap tx nu ka _ kc gt n w ht [b] hJ hJL
    rw [Lib.join_one] at this
    exact this
  · exact rt_4 a L cap tx nu ka _ kc gt n w ht KS hJ hJL
  · exact rt_5 a L cap tx nu ka _ kc gt n w ht KS hJ hJL
  · obtain ⟨b, c, rfl⟩ := two_kids (show KS.length = 2 by simp [kidsB] at hkb; omega)
    have := rt_6 a L cap tx nu ka _ kc gt n w ht (by simp [holdsB] at hh; omega) [b, c] hJ hJL
    rw [join_two, show b ++ ([32] ++ (sgnL nu ++ [32]) ++ c) = txK 6 (quoteL tx.data.toList) nu [b, c] by simp [txK]] at this
    exact this
  · obtain ⟨b, c, rfl⟩ := two_kids (show KS.length = 2 by simp [kidsB] at hkb; omega)
    have hnu : nu = 1 ∨ nu = 0 := by simp [holdsB] at hh; omega
    rcases hnu with rfl | rfl
    · have := rt_7a a L cap tx ka _ kc gt n w ht [b, c] hJ hJL
      rw [join_two, show b ++ ([32, 110, 111, 116, 105, 110, 32] ++ c) = txK 7 (quoteL tx.data.toList) 1 [b, c] by simp [txK, memL]] at this
      exact this
    · have := rt_7b a L cap tx ka _ kc gt n w ht [b, c] hJ hJL
      rw [join_two, show b ++ ([32, 105, 110, 32] ++ c) = txK 7 (quoteL tx.data.toList) 0 [b, c] by simp [txK, memL]] at this
      exact this
  · obtain ⟨b1, o1, x, rfl, e1, e2, e3, e4, e5, e6⟩ := hone (by simp [kidsB] at hkb; omega) (by decide)
    have := rt_8 a L cap tx nu kc gt n w ht b1 o1 x _ e5 e1 e2 e3 hgt e4 hn1
    rw [← e6] at this
    rw [show ks.length = 1 by simp [kidsB] at hkb; omega]
    exact this
  · obtain ⟨b1, o1, x, rfl, e1, e2, e3, e4, e5, e6⟩ := hone (by simp [kidsB] at hkb; omega) (by decide)
    have := rt_9 a L cap tx nu kc gt n w ht b1 o1 x _ e5 e1 e2 e3 hgt e4 hn1
    rw [← e6] at this
    rw [show ks.length = 1 by simp [kidsB] at hkb; omega]
    exact this
  · exact rl_10 a L cap tx nu ka _ kc gt n w ht _ (fun W => leaf_10 tx nu _ W ht)
  · exact rl_11 a L cap tx nu ka _ kc gt n w ht _ (fun W => leaf_11 tx nu _ W ht)
  · exact rl_12 a L cap tx nu ka _ kc gt n w ht _ (fun W => leaf_12 tx nu _ (by simp [holdsB] at hh; omega) W ht)
  · exact rt_13 a L cap tx nu ka _ kc gt n w ht KS hJ hJL
  · exact rl_14 a L cap tx nu ka _ kc gt n w ht _ (fun W => leaf_14 tx nu _ (by simp [holdsB] at hh; omega) W ht)
  · exact rl_15 a L cap tx nu ka _ kc gt n w ht _ (fun W => leaf_15 tx nu _ (by simp [holdsB] at hh; omega) W ht)
  · exact rl_16 a L cap tx nu ka _ kc gt n w ht _ (fun W => leaf_16 tx nu _ (by simp [holdsB] at hh; omega) W ht)
  · exact rl_17 a L cap tx nu ka _ kc gt n w ht _ (fun W => leaf_17 tx nu _ (by simp [holdsB] at hh; omega) W ht)
  · exact rl_18 a L cap tx nu ka _ kc gt n w ht _ (fun W => leaf_18 tx nu _ (by simp [holdsB] at hh; omega) W ht)
  · obtain ⟨b1, o1, x, rfl, e1, e2, e3, e4, e5, e6⟩ := hone (by simp [kidsB] at hkb; omega) (by decide)
    have := rt_19 a L cap tx nu kc gt n w ht b1 o1 x _ e5 e1 e2 e3 hgt e4 hn1
    rw [← e6] at this
    rw [show ks.length = 1 by simp [kidsB] at hkb; omega]
    exact this
  · obtain ⟨b1, o1, x, rfl, e1, e2, e3, e4, e5, e6⟩ := hone (by simp [kidsB] at hkb; omega) (by decide)
    have := rt_20 a L cap tx nu kc gt n w ht b1 o1 x _ e5 e1 e2 e3 hgt e4 hn1
    rw [← e6] at this
    rw [show ks.length = 1 by simp [kidsB] at hkb; omega]
    exact this
end Go.Proofs.YtdnoagebcolgbaaDoor.L
