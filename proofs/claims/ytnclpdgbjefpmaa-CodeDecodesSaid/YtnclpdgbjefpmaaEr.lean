import Derived.Test.YtnclpdgbjefpmaaEq
namespace Go.Proofs.Ytnclpdgbjefpmaa.L
open Go.RowKit
set_option linter.unusedVariables false
set_option linter.unusedSimpArgs false
set_option maxHeartbeats 4000000 in
theorem list_c (ls : List Ins) (en : Nat → List UInt8) (L : Nat) (a : Option Addr) (cap : Nat) (B g : Nat) (l : List UInt8) (v : Value) (w0 w : World) (hL : L ≤ 140737488355328) (hLs : L = ls.length) (hR : RdC w0 a ls)
    (h0 : Below w0.heap.size w0 w) (hg : w0.heap.size ≤ g) (h : Wv B g v l w) (hl : l.length + (cnt L ++ (List.range L).flatMap en).length ≤ 70368744170000)
    (hW : ∀ j, j < L → ∀ (l' : List UInt8) (v' : Value) (W' : World), Wv B g v' l' W' → Below w0.heap.size w0 W' → l'.length + (en j).length ≤ 70368744170000 → Calls Try.prog 64 #[.pointer (some ⟨g, 0, none⟩), .agg (insV (ls.getD j default))] W' (Wrs B g l' (en j) W')) :
    Calls Try.prog 63 #[.pointer (some ⟨g, 0, none⟩), .slice a L cap, .func (.func 64) #[.pointer (some ⟨g, 0, none⟩)] #[]] w (Wrs B g l (cnt L ++ (List.range L).flatMap en) w) := by
  have HLen := hid hl
  have HB := hid (show g < B from h.lt)
  have HBW := hid h.le
  have HLs := hid hLs
  clear hLs
  rw [List.length_append] at hl
  have HC := hid (count_any B g L l v w (by omega) h (by omega))
  have HW := hid hW
  have HR := hid hR
  have H0 := hid h0
  clear hW hR h0 h
  have hLm : L ≤ maxLen := by unfold maxLen; omega
  go_enter Try.func63, Try.ntmps63
  go_wp2_with fail
  refine HC.out.mono ?_
  rintro e w1 ⟨rfl, ⟨v1, h1⟩, h2⟩
  have HV1 := hid h1
  have HK1 := hid h2
  clear h1 h2
  go_wp2_with fail
  go_loopw [14] (fun i wr => ∃ (k : Nat) (v2 : Value), i = .int .i64 k ∧ k ≤ L ∧ Hid (Wv B g v2 (l ++ (cnt L ++ (List.range k).flatMap en)) wr) ∧ Hid (Kp B g w wr)) (fun i _ => L - (intOf i).toNat)
  case atStart => exact ⟨0, v1, rfl, Nat.zero_le _, hid (by simpa using HV1.out), HK1⟩
  case round =>
    obtain ⟨k, v2, rfl, hk, HV, HK⟩ := hrel
    by_cases hlt : k < L
    · have H0r := hid (kp_below H0.out HK.out hg HB.out)
      rcases HR.out.low H0r.out with h9 | ⟨b, off, rfl, hb, hc⟩
      · have := HLs.out; omega
      obtain ⟨c0, c1, c2, c3⟩ := hc k (by have := HLs.out; omega)
      clear hc
      obtain ⟨i, hi⟩ : ∃ i, i = ls.getD k default := ⟨_, rfl⟩
      rw [← hi] at c0 c1 c2 c3
      have HI := hid hi
      obtain ⟨o, x, y, z⟩ := i
      clear hi
      simp only at c0 c1 c2 c3
      have g1 : (k : Int) < (L : Int) := by omega
      have g2 : (0 : Int) ≤ (k : Int) := by omega
      have HE := hid (show (List.range (k + 1)).flatMap en = (List.range k).flatMap en ++ en k by rw [List.range_succ, List.flatMap_append]; simp)
      have hmono : ((List.range (k + 1)).flatMap en).length ≤ ((List.range L).flatMap en).length := by
        have e : List.range L = List.range (k + 1) ++ (List.range L).drop (k + 1) := by
          conv => lhs; rw [← List.take_append_drop (k + 1) (List.range L)]
          rw [List.take_range, Nat.min_eq_left (by omega)]
        rw [e, List.flatMap_append, List.length_append]
        omega
      have HLk := hid (show (l ++ (cnt L ++ (List.range k).flatMap en)).length + (en k).length ≤ 70368744170000 from by
        have h9 := HLen.out
        rw [HE.out] at hmono
        simp only [List.length_append] at h9 hmono ⊢
        omega)
      clear hmono
      go_upto_region 4 with fail
      have HB2 := hid (belowA wr (.cells #[.int .i64 o, .int .i64 x, .int .i64 y, .int .i64 z] 68))
      have HX2 := hid (heap_alloc_new wr (.cells #[.int .i64 o, .int .i64 x, .int .i64 y, .int .i64 z] 68))
      have HV2 := hid (HV.out.low HB2.out)
      have HK2 := hid (HK.out.below HB2.out HBW.out)
      have H02 := hid (bch H0r.out HB2.out)
      generalize wr.alloc (.cells #[.int .i64 o, .int .i64 x, .int .i64 y, .int .i64 z] 68) = wr2 at *
      generalize wr.heap.size = gx at *
      clear c0 c1 c2 c3
      have d0 : wr2.cell? ⟨gx, 0, none⟩ = some (.int .i64 o) := cell_of_row _ _ 0 _ _ _ HX2.out
      have d1 : wr2.cell? ⟨gx, 1, none⟩ = some (.int .i64 x) := cell_of_row _ _ 1 _ _ _ HX2.out
      have d2 : wr2.cell? ⟨gx, 2, none⟩ = some (.int .i64 y) := cell_of_row _ _ 2 _ _ _ HX2.out
      have d3 : wr2.cell? ⟨gx, 3, none⟩ = some (.int .i64 z) := cell_of_row _ _ 3 _ _ _ HX2.out
      have HWk := hid (HW.out k hlt (l ++ (cnt L ++ (List.range k).flatMap en)) v2 wr2 HV2.out H02.out HLk.out)
      rw [← HI.out] at HWk
      unfold insV at HWk
      simp only at HWk
      go_wp2_with fail
      refine HWk.out.mono ?_
      rintro e w2 ⟨rfl, ⟨v3, h1⟩, h2⟩
      have HV3 := hid (show Wv B g v3 (l ++ (cnt L ++ (List.range (k + 1)).flatMap en)) w2 by rw [HE.out, ← List.append_assoc (cnt L), ← List.append_assoc l]; exact h1)
      have HK3 := hid (HK2.out.trans h2)
      clear h1 h2
      go_wp2_with fail
      exact ⟨⟨k + 1, v3, by go_num, by omega, HV3, HK3⟩, by simp [intOf]; omega⟩
    · obtain rfl : k = L := by omega
      go_wp2_with fail
      go_end0
      exact ⟨rfl, ⟨v2, HV.out⟩, HK.out⟩
theorem wtexts (l0 : List ByteArray) (a : Option Addr) (cap : Nat) (B g : Nat) (l : List UInt8) (v : Value) (w : World) (hl0 : l0.length ≤ 140737488355328) (hR : ∃ w0 : World, Below w0.heap.size w0 w ∧ w0.heap.size ≤ g ∧ RdV w0 a (l0.map Value.string)) (h : Wv B g v l w) (hl : l.length + (cnt l0.length ++ l0.flatMap textC.W).length ≤ 70368744177664) :
    Calls Try.prog 55 #[.pointer (some ⟨g, 0, none⟩), .slice a l0.length cap, .func (.func 56) #[.pointer (some ⟨g, 0, none⟩)] #[]] w (Wrs B g l (cnt l0.length ++ l0.flatMap textC.W) w) := by
  obtain ⟨w0, h0, hg, hr⟩ := hR
  rw [← range_flat l0 ⟨#[]⟩ textC.W] at hl ⊢
  refine list_s (fun j => Value.string (l0.getD j ⟨#[]⟩)) (fun j => textC.W (l0.getD j ⟨#[]⟩)) l0.length a cap B g l v w0 w hl0 ?_ h0 hg h hl (fun j hj l' v' W' h1 h2 h3 => ?_)
  · rcases hr with h | ⟨b, off, e, hb, h⟩
    · exact Or.inl (by simpa using h)
    · exact Or.inr ⟨b, off, e, hb, fun j hj => by rw [h j (by simpa using hj), getD_map Value.string l0 ⟨#[]⟩ j hj]⟩
  · exact text_any B g (l0.getD j ⟨#[]⟩) l' v' W' h1 h3
theorem wnums (l0 : List Int) (a : Option Addr) (cap : Nat) (B g : Nat) (l : List UInt8) (v : Value) (w : World) (hl0 : l0.length ≤ 140737488355328) (hR : ∃ w0 : World, Below w0.heap.size w0 w ∧ w0.heap.size ≤ g ∧ RdV w0 a (l0.map (Value.int .i64))) (h : Wv B g v l w) (hl : l.length + (cnt l0.length ++ l0.flatMap sgnC.W).length ≤ 70368744177664) (hz : ∀ x, x ∈ l0 → inR x (-1000000000000000000) 1000000000000000000 = true) :
    Calls Try.prog 57 #[.pointer (some ⟨g, 0, none⟩), .slice a l0.length cap, .func (.func 58) #[.pointer (some ⟨g, 0, none⟩)] #[]] w (Wrs B g l (cnt l0.length ++ l0.flatMap sgnC.W) w) := by
  obtain ⟨w0, h0, hg, hr⟩ := hR
  rw [← range_flat l0 0 sgnC.W] at hl ⊢
  refine list_i (fun j => (Value.int .i64) (l0.getD j 0)) (fun j => sgnC.W (l0.getD j 0)) l0.length a cap B g l v w0 w hl0 ?_ h0 hg h hl (fun j hj l' v' W' h1 h2 h3 => ?_)
  · rcases hr with h | ⟨b, off, e, hb, h⟩
    · exact Or.inl (by simpa using h)
    · exact Or.inr ⟨b, off, e, hb, fun j hj => by rw [h j (by simpa using hj), getD_map (Value.int .i64) l0 0 j hj]⟩
  · exact signed_any B g (l0.getD j 0) l' v' W' (hz _ (by rw [List.getD_eq_getElem?_getD, List.getElem?_eq_getElem hj]; exact List.getElem_mem hj)) h1 h3
end Go.Proofs.Ytnclpdgbjefpmaa.L
