import Derived.Test.YtiddnjjaidiohaaGreatDoorMgAL
import Derived.Test.YtiddnjjaidiohaaGreatDoorMgAD
namespace Go.Proofs.YtiddnjjaidiohaaGreatDoor.L
open Go.RowKit Go.Shelf
set_option linter.unusedVariables false
set_option maxHeartbeats 4000000 in
set_option maxRecDepth 100000 in
theorem small_any (a : Option Addr) (T : List Pt) (cap : Nat) (w : World) (hT : PL w a T) (hG : GdT T) :
    Calls Tryz.prog 9 #[.agg #[.slice a T.length cap]] w fun e w' => (e = .returned (.bool true) ∧ sumK T T.length ≤ 100000 ∧ Below w.heap.size w w') ∨ (e = .returned (.bool false) ∧ 100000 < sumK T T.length ∧ Below w.heap.size w w') := by
  obtain ⟨L, hLe⟩ : ∃ L, L = T.length := ⟨_, rfl⟩
  have HT := hid hT
  have HL := hid hLe
  have HG := hid hG
  have hL : L ≤ 140737488355328 := by rw [hLe]; exact hG.1
  rw [← hLe]
  have HX0 := hid (Boxed.new w 26 (.slice a L cap))
  have HB0 := hid (belowA w (.cells #[.slice a L cap] 26))
  clear hT hLe hG
  go_enter Tryz.func9, Tryz.ntmps9
  go_upto_region 1 with (fail)
  have HTX := hid (HT.out.low HB0.out)
  generalize hXe : w.alloc (.cells #[.slice a L cap] 26) = X at *
  clear hXe
  have xt := HX0.out.cell
  go_wp2_with fail
  go_loopw [3, 12] (fun n i wr => ∃ (k s : Nat), k ≤ L ∧ i = .int .i64 (k : Int) ∧ n = .int .i64 (s : Int) ∧ s ≤ 140737488355328 ∧ Hid (k = 0 ∨ s ≤ 100000) ∧ Hid (s = sumK T k) ∧ Hid (Below X.heap.size X wr)) (fun _ i _ => L - (intOf i).toNat)
  case atStart => exact ⟨0, L, Nat.zero_le _, rfl, rfl, by omega, hid (.inl rfl), hid HL.out, hid (Below.refl _ _)⟩
  case round =>
    obtain ⟨k, s, hk, rfl, rfl, hs, HS0, HS, HB⟩ := hrel
    by_cases hkl : k < L
    · have hki : (k : Int) < (L : Int) := by omega
      have hk0 : (0 : Int) ≤ (k : Int) := by omega
      rcases HTX.out.low HB.out with h0 | ⟨b2, o2, rfl, hb2, hc2⟩
      · have := HL.out; omega
      obtain ⟨ka, kc, q0, q1, q2, q3, rk⟩ := hc2 k (by rw [← HL.out]; omega)
      have hkl2 := HG.out.2 k (by rw [← HL.out]; omega)
      obtain ⟨kd, hkd⟩ : ∃ kd, kd = (pt T k).kind := ⟨_, rfl⟩
      obtain ⟨tx, htx⟩ : ∃ tx, tx = (pt T k).text := ⟨_, rfl⟩
      obtain ⟨nu, hnu⟩ : ∃ nu, nu = (pt T k).num := ⟨_, rfl⟩
      obtain ⟨m, hm⟩ : ∃ m, m = (pt T k).kids.length := ⟨_, rfl⟩
      rw [← hm] at hkl2 q3
      rw [← hkd] at q0
      rw [← htx] at q1
      rw [← hnu] at q2
      have HM := hid hm
      have HVB := hid (belowA wr (.cells #[.int .i64 kd, .string tx, .int .i64 nu, .slice ka m kc] 60))
      have HVP := hid (heap_alloc_new wr (.cells #[.int .i64 kd, .string tx, .int .i64 nu, .slice ka m kc] 60))
      clear hm rk hc2 hkd htx hnu
      have hk4 : ((k : Int) * 4).toNat = k * 4 := by omega
      by_cases hs1 : s + m ≤ 100000
      · have hsi : ¬ ((100000 : Int) < (s : Int) + (m : Int)) := by omega
        go_upto_region 5 with (fail)
        have HB2 := hid (HB.out.trans (HVB.out.mono HB.out.size))
        clear q0 q1 q2 q3
        generalize wr.alloc (.cells #[.int .i64 kd, .string tx, .int .i64 nu, .slice ka m kc] 60) = V at *
        have x3 := (cells4 HVP.out).2.2.2
        go_wp2_with fail
        refine ⟨⟨k + 1, s + m, by omega, by simp, by simp, by omega, hid (.inr hs1), hid (by rw [HS.out, HM.out]; rfl), HB2⟩, ?_⟩
        show L - ((k : Int) + 1).toNat < L - ((k : Int)).toNat
        omega
      · have hsi : (100000 : Int) < (s : Int) + (m : Int) := by omega
        go_upto_region 5 with (fail)
        have HB2 := hid (HB.out.trans (HVB.out.mono HB.out.size))
        clear q0 q1 q2 q3
        generalize wr.alloc (.cells #[.int .i64 kd, .string tx, .int .i64 nu, .slice ka m kc] 60) = V at *
        have x3 := (cells4 HVP.out).2.2.2
        go_wp2_with fail
        go_ret
        refine Or.inr ⟨rfl, ?_, HB0.out.trans (HB2.out.mono HB0.out.size)⟩
        have h1 := sumK_mono T (i := k + 1) (j := L) (by omega)
        have h2 : sumK T (k + 1) = s + m := by rw [HS.out, HM.out]; rfl
        omega
    · have hki : ¬ ((k : Int) < (L : Int)) := by omega
      by_cases hs1 : s ≤ 100000
      · have hsi : (s : Int) ≤ 100000 := by omega
        go_wp2_with fail
        go_ret
        refine Or.inl ⟨?_, ?_, HB0.out.trans (HB.out.mono HB0.out.size)⟩
        · simp
        have : L = k := by omega
        rw [this, ← HS.out]
        exact hs1
      · have hsi : ¬ ((s : Int) ≤ 100000) := by omega
        go_wp2_with fail
        go_ret
        refine Or.inr ⟨?_, ?_, HB0.out.trans (HB.out.mono HB0.out.size)⟩
        · simp
        have : L = k := by omega
        rw [this, ← HS.out]
        omega
end Go.Proofs.YtiddnjjaidiohaaGreatDoor.L
