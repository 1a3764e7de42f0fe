import Derived.Test.YtodamoblnlcodaaDoorLv7
import Derived.Test.YtodamoblnlcodaaDoorMs1
namespace Go.Proofs.YtodamoblnlcodaaDoor.L
open Go.RowKit Go.Shelf
set_option linter.unusedVariables false
attribute [local go_sem] Oper.semAt_some
theorem put2_lk {W0 W : World} {g o : Nat} (h : Lk g W0 W) (a b : Value) : Lk g W0 (put2 W g o a b) := ⟨h.os, h.tape, h.output, by rw [put2_size]; exact h.size, fun k hk hn => by rw [put2_other _ _ _ hn]; exact h.block k hk hn⟩
theorem sf_7 : (rtC (rtC (rtC (rtC (rtC (rtC (rtC (Option.getD Tryd.f3.body Code.skip)))))))) = .seq (hdC (rtC (rtC (rtC (rtC (rtC (rtC (rtC (Option.getD Tryd.f3.body Code.skip))))))))) (rtC (rtC (rtC (rtC (rtC (rtC (rtC (rtC (Option.getD Tryd.f3.body Code.skip))))))))) := by kernel_rfl
theorem sf_8 : (rtC (rtC (rtC (rtC (rtC (rtC (rtC (rtC (Option.getD Tryd.f3.body Code.skip))))))))) = .seq (hdC (rtC (rtC (rtC (rtC (rtC (rtC (rtC (rtC (Option.getD Tryd.f3.body Code.skip)))))))))) (rtC (rtC (rtC (rtC (rtC (rtC (rtC (rtC (rtC (Option.getD Tryd.f3.body Code.skip)))))))))) := by kernel_rfl
set_option maxHeartbeats 16000000 in
set_option maxRecDepth 100000 in
theorem seg_7 (R : Exit → Act → World → Prop) (v1 v2 : Value) (b5 b6 b7 b12 g1 c1 g2 c2 L1 L2 : Nat) (u : Nat → Value) (W : World) (base : Nat) (l : List Lb) (hL : L1 = l.length) (hl : L1 * 32 ≤ 140737488351232) (hO : Own W base (.slice (some ⟨g1, 0, none⟩) (L1 + 80) c1) (l ++ spr 80))
    (nx : ∀ (a' : Act) (W' : World), (∃ u' : Nat → Value, a' = { tmps := #[v1, v2, u' 2, u' 3, u' 4, .pointer (some ⟨b5, 0, none⟩), .pointer (some ⟨b6, 0, none⟩), .pointer (some ⟨b7, 0, none⟩), u' 8, .slice (some ⟨g1, 0, none⟩) L1 c1, u' 10, .slice (some ⟨g2, 0, none⟩) L2 c2, .pointer (some ⟨b12, 0, none⟩), u' 13, u' 14, u' 15, u' 16, u' 17, u' 18, u' 19, u' 20, u' 21, u' 22, u' 23, u' 24, u' 25, u' 26, u' 27, u' 28, u' 29, u' 30, u' 31, u' 32, u' 33, u' 34, u' 35, u' 36, u' 37, u' 38, u' 39, u' 40, u' 41, u' 42, u' 43, u' 44, u' 45, u' 46, u' 47, u' 48, u' 49, u' 50, u' 51, u' 52, u' 53, u' 54, u' 55, u' 56, u' 57, u' 58, u' 59, u' 60, u' 61, u' 62, u' 63, u' 64, u' 65, u' 66, u' 67, u' 68, u' 69, u' 70, u' 71, u' 72, u' 73, u' 74, u' 75, u' 76, u' 77, u' 78, u' 79, u' 80, u' 81, u' 82, u' 83, u' 84, u' 85, u' 86, u' 87, u' 88, u' 89, u' 90, u' 91, u' 92, u' 93, u' 94, u' 95, u' 96, u' 97, u' 98, u' 99, u' 100, u' 101, u' 102, u' 103, u' 104, u' 105, u' 106, u' 107, u' 108, u' 109, u' 110, u' 111, u' 112, u' 113, u' 114, u' 115, u' 116, u' 117, u' 118, u' 119, u' 120, u' 121, u' 122, u' 123, u' 124, u' 125, u' 126, u' 127, u' 128, u' 129, u' 130, u' 131, u' 132, u' 133, u' 134, u' 135, u' 136, u' 137, u' 138, u' 139, u' 140, u' 141, u' 142, u' 143, u' 144, u' 145, u' 146, u' 147, u' 148, u' 149, u' 150, u' 151, u' 152, u' 153, u' 154, u' 155, u' 156, u' 157, u' 158, u' 159, u' 160, u' 161, u' 162, u' 163, u' 164, u' 165, u' 166], defers := [] } ∧ True) → Lk g1 W W' → (rtC (rtC (rtC (rtC (rtC (rtC (rtC (rtC (Option.getD Tryd.f3.body Code.skip))))))))).wpIn Fence.wide 4 Tryd.prog R a' W') :
    (rtC (rtC (rtC (rtC (rtC (rtC (rtC (Option.getD Tryd.f3.body Code.skip)))))))).wpIn Fence.wide 4 Tryd.prog R { tmps := #[v1, v2, u 2, u 3, u 4, .pointer (some ⟨b5, 0, none⟩), .pointer (some ⟨b6, 0, none⟩), .pointer (some ⟨b7, 0, none⟩), u 8, .slice (some ⟨g1, 0, none⟩) L1 c1, u 10, .slice (some ⟨g2, 0, none⟩) L2 c2, .pointer (some ⟨b12, 0, none⟩), u 13, u 14, u 15, u 16, u 17, u 18, u 19, u 20, u 21, u 22, u 23, u 24, u 25, u 26, u 27, u 28, u 29, u 30, u 31, u 32, u 33, u 34, u 35, u 36, u 37, u 38, u 39, u 40, u 41, u 42, u 43, u 44, u 45, u 46, u 47, u 48, u 49, u 50, u 51, u 52, u 53, u 54, u 55, u 56, u 57, u 58, u 59, u 60, u 61, u 62, u 63, u 64, u 65, u 66, u 67, u 68, u 69, u 70, u 71, u 72, u 73, u 74, u 75, u 76, u 77, u 78, u 79, u 80, u 81, u 82, u 83, u 84, u 85, u 86, u 87, u 88, u 89, u 90, u 91, u 92, u 93, u 94, u 95, u 96, u 97, u 98, u 99, u 100, u 101, u 102, u 103, u 104, u 105, u 106, u 107, u 108, u 109, u 110, u 111, u 112, u 113, u 114, u 115, u 116, u 117, u 118, u 119, u 120, u 121, u 122, u 123, u 124, u 125, u 126, u 127, u 128, u 129, u 130, u 131, u 132, u 133, u 134, u 135, u 136, u 137, u 138, u 139, u 140, u 141, u 142, u 143, u 144, u 145, u 146, u 147, u 148, u 149, u 150, u 151, u 152, u 153, u 154, u 155, u 156, u 157, u 158, u 159, u 160, u 161, u 162, u 163, u 164, u 165, u 166], defers := [] } W := by
  have NX := hid nx
  have I0 := hid (show ∃ M, Own W base (.slice (some ⟨g1, 0, none⟩) (L1 + 80) c1) M ∧ M.length = L1 + 80 from ⟨_, hO, by rw [List.length_append, spr_len, hL]⟩)
  have hcap := own_cap hO hL
  clear nx hO hL
  rw [sf_7]
  generalize hT : (rtC (rtC (rtC (rtC (rtC (rtC (rtC (rtC (Option.getD Tryd.f3.body Code.skip))))))))) = TL at *
  clear hT
  simp only [hdC, rtC, Option.getD, Tryd.f3]
  refine (wpIn_wide (n := 4)).2 ?_
  go_wp2_with fail
  go_loopw [13] (fun i wr => ∃ k : Nat, k ≤ L1 ∧ i = .int .i64 k ∧ Hid (∃ M, Own wr base (.slice (some ⟨g1, 0, none⟩) (L1 + 80) c1) M ∧ M.length = L1 + 80) ∧ Hid (Lk g1 W wr)) (fun i _ => L1 - (intOf i).toNat)
  case atStart => exact ⟨0, Nat.zero_le _, rfl, I0, hid (Lk.refl _ _)⟩
  case round =>
    obtain ⟨k, hk, rfl, HM, HK⟩ := hrel
    by_cases hlt : k < L1
    · have gg1 : (k : Int) < (L1 : Int) := by omega
      have gg0 : (0 : Int) ≤ (k : Int) := by omega
      obtain ⟨M, hO, hM⟩ := HM.out
      obtain ⟨g3, cp3, cur3, ev3, _, hcur, hnc, hcs⟩ := own_real hO hM (by omega)
      injection ev3 with ea3 _ ec3
      injection ea3 with ea3
      injection ea3 with ea3 _ _
      subst ea3 ec3
      obtain ⟨u0, k0, f0⟩ := cell_of hcur (show k * 2 < cur3.size by rw [hcs]; omega)
      obtain ⟨u1, k1, f1⟩ := cell_of hcur (show k * 2 + 1 < cur3.size by rw [hcs]; omega)
      have N1 := hid (show ∃ M', Own (put2 wr g1 (k * 2) (.string ⟨#[119, 114, 105, 116, 116, 101, 110]⟩) (.string ⟨#[111, 118, 101, 114]⟩)) base (.slice (some ⟨g1, 0, none⟩) (L1 + 80) c1) M' ∧ M'.length = L1 + 80 from ⟨_, own_put2 ⟨#[119, 114, 105, 116, 116, 101, 110]⟩ ⟨#[111, 118, 101, 114]⟩ hO (by omega), by rw [List.length_set]; exact hM⟩)
      have N2 := hid (put2_lk (o := k * 2) HK.out (.string ⟨#[119, 114, 105, 116, 116, 101, 110]⟩) (.string ⟨#[111, 118, 101, 114]⟩))
      unfold put2 at N1 N2
      have lg := lt_blk hcur
      clear hO hM hcur hnc hcs HM HK
      go_wp2_with fail
      exact ⟨⟨k + 1, by omega, by go_num, N1, N2⟩, by simp [intOf]; omega⟩
    · obtain rfl : L1 = k := by omega
      have gg1 : ¬ (L1 : Int) < (L1 : Int) := by omega
      go_wp2_with fail
      refine (wpIn_wide (n := 4)).1 ?_
      exact NX.out _ wr (ex_u rfl trivial) HK.out
set_option maxHeartbeats 16000000 in
set_option maxRecDepth 100000 in
theorem seg_8 (R : Exit → Act → World → Prop) (v1 v2 : Value) (b5 b6 b7 b12 g1 c1 g2 c2 L1 L2 : Nat) (u : Nat → Value) (W : World) (base : Nat) (l : List Lb) (hL : L2 = l.length) (hl : L2 * 32 ≤ 140737488351232) (hO : Own W base (.slice (some ⟨g2, 0, none⟩) (L2 + 80) c2) (l ++ spr 80))
    (nx : ∀ (a' : Act) (W' : World), (∃ u' : Nat → Value, a' = { tmps := #[v1, v2, u' 2, u' 3, u' 4, .pointer (some ⟨b5, 0, none⟩), .pointer (some ⟨b6, 0, none⟩), .pointer (some ⟨b7, 0, none⟩), u' 8, .slice (some ⟨g1, 0, none⟩) L1 c1, u' 10, .slice (some ⟨g2, 0, none⟩) L2 c2, .pointer (some ⟨b12, 0, none⟩), u' 13, u' 14, u' 15, u' 16, u' 17, u' 18, u' 19, u' 20, u' 21, u' 22, u' 23, u' 24, u' 25, u' 26, u' 27, u' 28, u' 29, u' 30, u' 31, u' 32, u' 33, u' 34, u' 35, u' 36, u' 37, u' 38, u' 39, u' 40, u' 41, u' 42, u' 43, u' 44, u' 45, u' 46, u' 47, u' 48, u' 49, u' 50, u' 51, u' 52, u' 53, u' 54, u' 55, u' 56, u' 57, u' 58, u' 59, u' 60, u' 61, u' 62, u' 63, u' 64, u' 65, u' 66, u' 67, u' 68, u' 69, u' 70, u' 71, u' 72, u' 73, u' 74, u' 75, u' 76, u' 77, u' 78, u' 79, u' 80, u' 81, u' 82, u' 83, u' 84, u' 85, u' 86, u' 87, u' 88, u' 89, u' 90, u' 91, u' 92, u' 93, u' 94, u' 95, u' 96, u' 97, u' 98, u' 99, u' 100, u' 101, u' 102, u' 103, u' 104, u' 105, u' 106, u' 107, u' 108, u' 109, u' 110, u' 111, u' 112, u' 113, u' 114, u' 115, u' 116, u' 117, u' 118, u' 119, u' 120, u' 121, u' 122, u' 123, u' 124, u' 125, u' 126, u' 127, u' 128, u' 129, u' 130, u' 131, u' 132, u' 133, u' 134, u' 135, u' 136, u' 137, u' 138, u' 139, u' 140, u' 141, u' 142, u' 143, u' 144, u' 145, u' 146, u' 147, u' 148, u' 149, u' 150, u' 151, u' 152, u' 153, u' 154, u' 155, u' 156, u' 157, u' 158, u' 159, u' 160, u' 161, u' 162, u' 163, u' 164, u' 165, u' 166], defers := [] } ∧ True) → Lk g2 W W' → (rtC (rtC (rtC (rtC (rtC (rtC (rtC (rtC (rtC (Option.getD Tryd.f3.body Code.skip)))))))))).wpIn Fence.wide 4 Tryd.prog R a' W') :
    (rtC (rtC (rtC (rtC (rtC (rtC (rtC (rtC (Option.getD Tryd.f3.body Code.skip))))))))).wpIn Fence.wide 4 Tryd.prog R { tmps := #[v1, v2, u 2, u 3, u 4, .pointer (some ⟨b5, 0, none⟩), .pointer (some ⟨b6, 0, none⟩), .pointer (some ⟨b7, 0, none⟩), u 8, .slice (some ⟨g1, 0, none⟩) L1 c1, u 10, .slice (some ⟨g2, 0, none⟩) L2 c2, .pointer (some ⟨b12, 0, none⟩), u 13, u 14, u 15, u 16, u 17, u 18, u 19, u 20, u 21, u 22, u 23, u 24, u 25, u 26, u 27, u 28, u 29, u 30, u 31, u 32, u 33, u 34, u 35, u 36, u 37, u 38, u 39, u 40, u 41, u 42, u 43, u 44, u 45, u 46, u 47, u 48, u 49, u 50, u 51, u 52, u 53, u 54, u 55, u 56, u 57, u 58, u 59, u 60, u 61, u 62, u 63, u 64, u 65, u 66, u 67, u 68, u 69, u 70, u 71, u 72, u 73, u 74, u 75, u 76, u 77, u 78, u 79, u 80, u 81, u 82, u 83, u 84, u 85, u 86, u 87, u 88, u 89, u 90, u 91, u 92, u 93, u 94, u 95, u 96, u 97, u 98, u 99, u 100, u 101, u 102, u 103, u 104, u 105, u 106, u 107, u 108, u 109, u 110, u 111, u 112, u 113, u 114, u 115, u 116, u 117, u 118, u 119, u 120, u 121, u 122, u 123, u 124, u 125, u 126, u 127, u 128, u 129, u 130, u 131, u 132, u 133, u 134, u 135, u 136, u 137, u 138, u 139, u 140, u 141, u 142, u 143, u 144, u 145, u 146, u 147, u 148, u 149, u 150, u 151, u 152, u 153, u 154, u 155, u 156, u 157, u 158, u 159, u 160, u 161, u 162, u 163, u 164, u 165, u 166], defers := [] } W := by
  have NX := hid nx
  have I0 := hid (show ∃ M, Own W base (.slice (some ⟨g2, 0, none⟩) (L2 + 80) c2) M ∧ M.length = L2 + 80 from ⟨_, hO, by rw [List.length_append, spr_len, hL]⟩)
  have hcap := own_cap hO hL
  clear nx hO hL
  rw [sf_8]
  generalize hT : (rtC (rtC (rtC (rtC (rtC (rtC (rtC (rtC (rtC (Option.getD Tryd.f3.body Code.skip)))))))))) = TL at *
  clear hT
  simp only [hdC, rtC, Option.getD, Tryd.f3]
  refine (wpIn_wide (n := 4)).2 ?_
  go_wp2_with fail
  go_loopw [14] (fun i wr => ∃ k : Nat, k ≤ L2 ∧ i = .int .i64 k ∧ Hid (∃ M, Own wr base (.slice (some ⟨g2, 0, none⟩) (L2 + 80) c2) M ∧ M.length = L2 + 80) ∧ Hid (Lk g2 W wr)) (fun i _ => L2 - (intOf i).toNat)
  case atStart => exact ⟨0, Nat.zero_le _, rfl, I0, hid (Lk.refl _ _)⟩
  case round =>
    obtain ⟨k, hk, rfl, HM, HK⟩ := hrel
    by_cases hlt : k < L2
    · have gg1 : (k : Int) < (L2 : Int) := by omega
      have gg0 : (0 : Int) ≤ (k : Int) := by omega
      obtain ⟨M, hO, hM⟩ := HM.out
      obtain ⟨g3, cp3, cur3, ev3, _, hcur, hnc, hcs⟩ := own_real hO hM (by omega)
      injection ev3 with ea3 _ ec3
      injection ea3 with ea3
      injection ea3 with ea3 _ _
      subst ea3 ec3
      obtain ⟨u0, k0, f0⟩ := cell_of hcur (show k * 2 < cur3.size by rw [hcs]; omega)
      obtain ⟨u1, k1, f1⟩ := cell_of hcur (show k * 2 + 1 < cur3.size by rw [hcs]; omega)
      have N1 := hid (show ∃ M', Own (put2 wr g2 (k * 2) (.string ⟨#[111, 118, 101, 114]⟩) (.string ⟨#[119, 114, 105, 116, 116, 101, 110]⟩)) base (.slice (some ⟨g2, 0, none⟩) (L2 + 80) c2) M' ∧ M'.length = L2 + 80 from ⟨_, own_put2 ⟨#[111, 118, 101, 114]⟩ ⟨#[119, 114, 105, 116, 116, 101, 110]⟩ hO (by omega), by rw [List.length_set]; exact hM⟩)
      have N2 := hid (put2_lk (o := k * 2) HK.out (.string ⟨#[111, 118, 101, 114]⟩) (.string ⟨#[119, 114, 105, 116, 116, 101, 110]⟩))
      unfold put2 at N1 N2
      have lg := lt_blk hcur
      clear hO hM hcur hnc hcs HM HK
      go_wp2_with fail
      exact ⟨⟨k + 1, by omega, by go_num, N1, N2⟩, by simp [intOf]; omega⟩
    · obtain rfl : L2 = k := by omega
      have gg1 : ¬ (L2 : Int) < (L2 : Int) := by omega
      go_wp2_with fail
      refine (wpIn_wide (n := 4)).1 ?_
      exact NX.out _ wr (ex_u rfl trivial) HK.out
end Go.Proofs.YtodamoblnlcodaaDoor.L
