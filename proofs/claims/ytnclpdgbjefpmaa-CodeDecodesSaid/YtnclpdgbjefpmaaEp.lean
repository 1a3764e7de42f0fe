import Derived.Test.YtnclpdgbjefpmaaEo
namespace Go.Proofs.Ytnclpdgbjefpmaa.L
open Go.RowKit
set_option linter.unusedVariables false
set_option linter.unusedSimpArgs false
set_option maxHeartbeats 4000000 in
theorem list_i (ev : Nat → Value) (en : Nat → List UInt8) (L : Nat) (a : Option Addr) (cap : Nat) (B g : Nat) (l : List UInt8) (v : Value) (w0 w : World) (hL : L ≤ 140737488355328) (hR : L = 0 ∨ ∃ b off, a = some ⟨b, off, none⟩ ∧ b < w0.heap.size ∧ ∀ j, j < L → w0.cell? ⟨b, off + j, none⟩ = some (ev j))
    (h0 : Below w0.heap.size w0 w) (hg : w0.heap.size ≤ g) (h : Wv B g v l w) (hl : l.length + (cnt L ++ (List.range L).flatMap en).length ≤ 70368744177664)
    (hW : ∀ j, j < L → ∀ (l' : List UInt8) (v' : Value) (W' : World), Wv B g v' l' W' → Below w0.heap.size w0 W' → l'.length + (en j).length ≤ 70368744177664 → Calls Try.prog 58 #[.pointer (some ⟨g, 0, none⟩), ev j] W' (Wrs B g l' (en j) W')) :
    Calls Try.prog 57 #[.pointer (some ⟨g, 0, none⟩), .slice a L cap, .func (.func 58) #[.pointer (some ⟨g, 0, none⟩)] #[]] w (Wrs B g l (cnt L ++ (List.range L).flatMap en) w) := by
  have HLen := hid hl
  have HB := hid (show g < B from h.lt)
  rw [List.length_append] at hl
  have HC := hid (count_any B g L l v w (by omega) h (by omega))
  have HW := hid hW
  have HR := hid hR
  have H0 := hid h0
  clear hW hR h0 h
  have hLm : L ≤ maxLen := by unfold maxLen; omega
  go_enter Try.func57, Try.ntmps57
  go_wp2_with fail
  refine HC.out.mono ?_
  rintro e w1 ⟨rfl, ⟨v1, h1⟩, h2⟩
  have HV1 := hid h1
  have HK1 := hid h2
  clear h1 h2
  go_wp2_with fail
  go_loopw [14] (fun i wr => ∃ (k : Nat) (v2 : Value), i = .int .i64 k ∧ k ≤ L ∧ Hid (Wv B g v2 (l ++ (cnt L ++ (List.range k).flatMap en)) wr) ∧ Hid (Kp B g w wr)) (fun i _ => L - (intOf i).toNat)
  case atStart => exact ⟨0, v1, rfl, Nat.zero_le _, hid (by simpa using HV1.out), HK1⟩
  case round =>
    obtain ⟨k, v2, rfl, hk, HV, HK⟩ := hrel
    by_cases hlt : k < L
    · have H0r := hid (kp_below H0.out HK.out hg HB.out)
      rcases HR.out with h9 | ⟨b, off, rfl, hb, hc⟩
      · omega
      have p0 : wr.cell? ⟨b, off + k, none⟩ = some (ev k) := (H0r.out.cell (p := ⟨b, off + k, none⟩) hb).trans (hc k hlt)
      clear hc
      have g1 : (k : Int) < (L : Int) := by omega
      have g2 : (0 : Int) ≤ (k : Int) := by omega
      have HE := hid (show (List.range (k + 1)).flatMap en = (List.range k).flatMap en ++ en k by rw [List.range_succ, List.flatMap_append]; simp)
      have hmono : ((List.range (k + 1)).flatMap en).length ≤ ((List.range L).flatMap en).length := by
        have e : List.range L = List.range (k + 1) ++ (List.range L).drop (k + 1) := by
          conv => lhs; rw [← List.take_append_drop (k + 1) (List.range L)]
          rw [List.take_range, Nat.min_eq_left (by omega)]
        rw [e, List.flatMap_append, List.length_append]
        omega
      have HLk := hid (show (l ++ (cnt L ++ (List.range k).flatMap en)).length + (en k).length ≤ 70368744177664 from by
        have h9 := HLen.out
        rw [HE.out] at hmono
        simp only [List.length_append] at h9 hmono ⊢
        omega)
      clear hmono
      have HWk := hid (HW.out k hlt (l ++ (cnt L ++ (List.range k).flatMap en)) v2 wr HV.out H0r.out HLk.out)
      go_wp2_with fail
      refine HWk.out.mono ?_
      rintro e w2 ⟨rfl, ⟨v3, h1⟩, h2⟩
      have HV3 := hid (show Wv B g v3 (l ++ (cnt L ++ (List.range (k + 1)).flatMap en)) w2 by rw [HE.out, ← List.append_assoc (cnt L), ← List.append_assoc l]; exact h1)
      have HK3 := hid (HK.out.trans h2)
      clear h1 h2
      go_wp2_with fail
      exact ⟨⟨k + 1, v3, by go_num, by omega, HV3, HK3⟩, by simp [intOf]; omega⟩
    · obtain rfl : k = L := by omega
      go_wp2_with fail
      go_end0
      exact ⟨rfl, ⟨v2, HV.out⟩, HK.out⟩
set_option maxHeartbeats 4000000 in
theorem list_ss (ev : Nat → Value) (en : Nat → List UInt8) (L : Nat) (a : Option Addr) (cap : Nat) (B g : Nat) (l : List UInt8) (v : Value) (w0 w : World) (hL : L ≤ 140737488355328) (hR : L = 0 ∨ ∃ b off, a = some ⟨b, off, none⟩ ∧ b < w0.heap.size ∧ ∀ j, j < L → w0.cell? ⟨b, off + j, none⟩ = some (ev j))
    (h0 : Below w0.heap.size w0 w) (hg : w0.heap.size ≤ g) (h : Wv B g v l w) (hl : l.length + (cnt L ++ (List.range L).flatMap en).length ≤ 70368744177664)
    (hW : ∀ j, j < L → ∀ (l' : List UInt8) (v' : Value) (W' : World), Wv B g v' l' W' → Below w0.heap.size w0 W' → l'.length + (en j).length ≤ 70368744177664 → Calls Try.prog 60 #[.pointer (some ⟨g, 0, none⟩), ev j] W' (Wrs B g l' (en j) W')) :
    Calls Try.prog 59 #[.pointer (some ⟨g, 0, none⟩), .slice a L cap, .func (.func 60) #[.pointer (some ⟨g, 0, none⟩)] #[]] w (Wrs B g l (cnt L ++ (List.range L).flatMap en) w) := by
  have HLen := hid hl
  have HB := hid (show g < B from h.lt)
  rw [List.length_append] at hl
  have HC := hid (count_any B g L l v w (by omega) h (by omega))
  have HW := hid hW
  have HR := hid hR
  have H0 := hid h0
  clear hW hR h0 h
  have hLm : L ≤ maxLen := by unfold maxLen; omega
  go_enter Try.func59, Try.ntmps59
  go_wp2_with fail
  refine HC.out.mono ?_
  rintro e w1 ⟨rfl, ⟨v1, h1⟩, h2⟩
  have HV1 := hid h1
  have HK1 := hid h2
  clear h1 h2
  go_wp2_with fail
  go_loopw [14] (fun i wr => ∃ (k : Nat) (v2 : Value), i = .int .i64 k ∧ k ≤ L ∧ Hid (Wv B g v2 (l ++ (cnt L ++ (List.range k).flatMap en)) wr) ∧ Hid (Kp B g w wr)) (fun i _ => L - (intOf i).toNat)
  case atStart => exact ⟨0, v1, rfl, Nat.zero_le _, hid (by simpa using HV1.out), HK1⟩
  case round =>
    obtain ⟨k, v2, rfl, hk, HV, HK⟩ := hrel
    by_cases hlt : k < L
    · have H0r := hid (kp_below H0.out HK.out hg HB.out)
      rcases HR.out with h9 | ⟨b, off, rfl, hb, hc⟩
      · omega
      have p0 : wr.cell? ⟨b, off + k, none⟩ = some (ev k) := (H0r.out.cell (p := ⟨b, off + k, none⟩) hb).trans (hc k hlt)
      clear hc
      have g1 : (k : Int) < (L : Int) := by omega
      have g2 : (0 : Int) ≤ (k : Int) := by omega
      have HE := hid (show (List.range (k + 1)).flatMap en = (List.range k).flatMap en ++ en k by rw [List.range_succ, List.flatMap_append]; simp)
      have hmono : ((List.range (k + 1)).flatMap en).length ≤ ((List.range L).flatMap en).length := by
        have e : List.range L = List.range (k + 1) ++ (List.range L).drop (k + 1) := by
          conv => lhs; rw [← List.take_append_drop (k + 1) (List.range L)]
          rw [List.take_range, Nat.min_eq_left (by omega)]
        rw [e, List.flatMap_append, List.length_append]
        omega
      have HLk := hid (show (l ++ (cnt L ++ (List.range k).flatMap en)).length + (en k).length ≤ 70368744177664 from by
        have h9 := HLen.out
        rw [HE.out] at hmono
        simp only [List.length_append] at h9 hmono ⊢
        omega)
      clear hmono
      have HWk := hid (HW.out k hlt (l ++ (cnt L ++ (List.range k).flatMap en)) v2 wr HV.out H0r.out HLk.out)
      go_wp2_with fail
      refine HWk.out.mono ?_
      rintro e w2 ⟨rfl, ⟨v3, h1⟩, h2⟩
      have HV3 := hid (show Wv B g v3 (l ++ (cnt L ++ (List.range (k + 1)).flatMap en)) w2 by rw [HE.out, ← List.append_assoc (cnt L), ← List.append_assoc l]; exact h1)
      have HK3 := hid (HK.out.trans h2)
      clear h1 h2
      go_wp2_with fail
      exact ⟨⟨k + 1, v3, by go_num, by omega, HV3, HK3⟩, by simp [intOf]; omega⟩
    · obtain rfl : k = L := by omega
      go_wp2_with fail
      go_end0
      exact ⟨rfl, ⟨v2, HV.out⟩, HK.out⟩
set_option maxHeartbeats 4000000 in
theorem list_is (ev : Nat → Value) (en : Nat → List UInt8) (L : Nat) (a : Option Addr) (cap : Nat) (B g : Nat) (l : List UInt8) (v : Value) (w0 w : World) (hL : L ≤ 140737488355328) (hR : L = 0 ∨ ∃ b off, a = some ⟨b, off, none⟩ ∧ b < w0.heap.size ∧ ∀ j, j < L → w0.cell? ⟨b, off + j, none⟩ = some (ev j))
    (h0 : Below w0.heap.size w0 w) (hg : w0.heap.size ≤ g) (h : Wv B g v l w) (hl : l.length + (cnt L ++ (List.range L).flatMap en).length ≤ 70368744177664)
    (hW : ∀ j, j < L → ∀ (l' : List UInt8) (v' : Value) (W' : World), Wv B g v' l' W' → Below w0.heap.size w0 W' → l'.length + (en j).length ≤ 70368744177664 → Calls Try.prog 62 #[.pointer (some ⟨g, 0, none⟩), ev j] W' (Wrs B g l' (en j) W')) :
    Calls Try.prog 61 #[.pointer (some ⟨g, 0, none⟩), .slice a L cap, .func (.func 62) #[.pointer (some ⟨g, 0, none⟩)] #[]] w (Wrs B g l (cnt L ++ (List.range L).flatMap en) w) := by
  have HLen := hid hl
  have HB := hid (show g < B from h.lt)
  rw [List.length_append] at hl
  have HC := hid (count_any B g L l v w (by omega) h (by omega))
  have HW := hid hW
  have HR := hid hR
  have H0 := hid h0
  clear hW hR h0 h
  have hLm : L ≤ maxLen := by unfold maxLen; omega
  go_enter Try.func61, Try.ntmps61
  go_wp2_with fail
  refine HC.out.mono ?_
  rintro e w1 ⟨rfl, ⟨v1, h1⟩, h2⟩
  have HV1 := hid h1
  have HK1 := hid h2
  clear h1 h2
  go_wp2_with fail
  go_loopw [14] (fun i wr => ∃ (k : Nat) (v2 : Value), i = .int .i64 k ∧ k ≤ L ∧ Hid (Wv B g v2 (l ++ (cnt L ++ (List.range k).flatMap en)) wr) ∧ Hid (Kp B g w wr)) (fun i _ => L - (intOf i).toNat)
  case atStart => exact ⟨0, v1, rfl, Nat.zero_le _, hid (by simpa using HV1.out), HK1⟩
  case round =>
    obtain ⟨k, v2, rfl, hk, HV, HK⟩ := hrel
    by_cases hlt : k < L
    · have H0r := hid (kp_below H0.out HK.out hg HB.out)
      rcases HR.out with h9 | ⟨b, off, rfl, hb, hc⟩
      · omega
      have p0 : wr.cell? ⟨b, off + k, none⟩ = some (ev k) := (H0r.out.cell (p := ⟨b, off + k, none⟩) hb).trans (hc k hlt)
      clear hc
      have g1 : (k : Int) < (L : Int) := by omega
      have g2 : (0 : Int) ≤ (k : Int) := by omega
      have HE := hid (show (List.range (k + 1)).flatMap en = (List.range k).flatMap en ++ en k by rw [List.range_succ, List.flatMap_append]; simp)
      have hmono : ((List.range (k + 1)).flatMap en).length ≤ ((List.range L).flatMap en).length := by
        have e : List.range L = List.range (k + 1) ++ (List.range L).drop (k + 1) := by
          conv => lhs; rw [← List.take_append_drop (k + 1) (List.range L)]
          rw [List.take_range, Nat.min_eq_left (by omega)]
        rw [e, List.flatMap_append, List.length_append]
        omega
      have HLk := hid (show (l ++ (cnt L ++ (List.range k).flatMap en)).length + (en k).length ≤ 70368744177664 from by
        have h9 := HLen.out
        rw [HE.out] at hmono
        simp only [List.length_append] at h9 hmono ⊢
        omega)
      clear hmono
      have HWk := hid (HW.out k hlt (l ++ (cnt L ++ (List.range k).flatMap en)) v2 wr HV.out H0r.out HLk.out)
      go_wp2_with fail
      refine HWk.out.mono ?_
      rintro e w2 ⟨rfl, ⟨v3, h1⟩, h2⟩
      have HV3 := hid (show Wv B g v3 (l ++ (cnt L ++ (List.range (k + 1)).flatMap en)) w2 by rw [HE.out, ← List.append_assoc (cnt L), ← List.append_assoc l]; exact h1)
      have HK3 := hid (HK.out.trans h2)
      clear h1 h2
      go_wp2_with fail
      exact ⟨⟨k + 1, v3, by go_num, by omega, HV3, HK3⟩, by simp [intOf]; omega⟩
    · obtain rfl : k = L := by omega
      go_wp2_with fail
      go_end0
      exact ⟨rfl, ⟨v2, HV.out⟩, HK.out⟩
end Go.Proofs.Ytnclpdgbjefpmaa.L
