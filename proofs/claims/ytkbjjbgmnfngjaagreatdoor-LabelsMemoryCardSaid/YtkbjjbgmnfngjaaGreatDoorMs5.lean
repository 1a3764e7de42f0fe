import Derived.Test.YtkbjjbgmnfngjaaGreatDoorMs4
import Derived.Test.YtkbjjbgmnfngjaaGreatDoorRri
import Derived.Laws.BytesArg
namespace Go.Proofs.YtkbjjbgmnfngjaaGreatDoor.L
open Go.RowKit
set_option linter.unusedVariables false
set_option maxHeartbeats 8000000 in
set_option maxRecDepth 100000 in
theorem apart_any (w : World) (kd K n : Int) (aL aO aD : Option Addr) (cL cO nD cD : Nat) (s ks vs : ByteArray) (l c : List Lb) (A : List Lb → List Lb → Prop) (hA : Asks w kd (.agg #[.int .i64 K, .slice aL l.length cL, .slice aO c.length cO, .slice aD nD cD, .string s, .string ks, .string vs, .int .i64 n]) A) (hL : Came w (.slice aL l.length cL) l) (hO : Came w (.slice aO c.length cO) c) (hg : Good l) (hgc : Good c) :
    Calls Tryz.prog 5 #[.int .i64 kd, .agg #[.int .i64 K, .slice aL l.length cL, .slice aO c.length cO, .slice aD nD cD, .string s, .string ks, .string vs, .int .i64 n]] w fun e w' => e = .returned (.bool true) ∧ Below w.heap.size w w' := by
  obtain ⟨i0, hi0, hz0, hz1, hz2⟩ := info_prts infoL
  have HA := hid hA
  have HG := hid hg
  have HGC := hid hgc
  have HL := hid hL
  have HO := hid hO
  have hl2 : l.length ≤ 4398046510976 := by have := hg.1.2; omega
  have hc2 : c.length ≤ 4398046510976 := by have := hgc.1.2; omega
  have RM := hid (fun W (hb : Below w.heap.size w W) => roomy_any (.slice aL l.length cL) l W (hL.low hb) hg)
  have E0 := hid (eight_all w (.int .i64 K) (.slice aL l.length cL) (.slice aO c.length cO) (.slice aD nD cD) (.string s) (.string ks) (.string vs) (.int .i64 n) 25)
  obtain ⟨L, hLL⟩ : ∃ L, L = l.length := ⟨_, rfl⟩
  obtain ⟨C, hCC⟩ : ∃ C, C = c.length := ⟨_, rfl⟩
  have HLL := hid hLL
  have HCC := hid hCC
  rw [← hLL, ← hCC] at HA E0
  rw [← hLL] at HL RM hl2
  rw [← hCC] at HO hc2
  rw [← hLL, ← hCC]
  clear hA hL hO hg hgc hLL hCC
  go_enter Tryz.func5, Tryz.ntmps5
  go_wp2_with fail
  refine (RM.out _ (belowA _ _)).mono ?_
  rintro e w2 ⟨g, cap, rfl, hown, hb⟩
  have AP := hid (show Ap w w2 [.int .i64 K, .slice aL L cL, .slice aO C cO, .slice aD nD cD, .string s, .string ks, .string vs, .int .i64 n] g cap L l w2.heap.size from ⟨w_bel (belowA _ _) hb, fun i v hi => (hb.cell (p := ⟨w.heap.size, i, none⟩) (by simp)).trans (E0.out i v hi), own_mono hown (by simp), HLL.out, Nat.le_refl _, own_lt hown g rfl, Nat.lt_of_lt_of_le (by simp) hb.size⟩)
  have hcapL : L ≤ cap := by
    rcases hown.2 with ⟨e, _⟩ | ⟨g', cp', cur, e, _, _, hc, _⟩
    · cases e
    · injection e with _ e2 e3
      rw [List.length_append, spr_len] at hc
      have := HLL.out
      omega
  clear hown hb RM E0
  obtain ⟨B, hB⟩ : ∃ B, B = w2.heap.size := ⟨_, rfl⟩
  rw [← hB] at AP
  have HBB := hid hB
  clear hB
  have c0 := AP.out.bx 0 _ rfl
  have c1 := AP.out.bx 1 _ rfl
  have c2 := AP.out.bx 2 _ rfl
  have c3 := AP.out.bx 3 _ rfl
  have c4 := AP.out.bx 4 _ rfl
  have c5 := AP.out.bx 5 _ rfl
  have c6 := AP.out.bx 6 _ rfl
  have c7 := AP.out.bx 7 _ rfl
  have hbz := Nat.lt_of_lt_of_le AP.out.bl AP.out.top
  go_wp2_with fail
  refine (HA.out.ask _ _ l AP.out.bel AP.out.came HG.out).mono ?_
  rintro e w3 ⟨va, la, rfl, hoa, haa, hb⟩
  have AP3 := hid (AP.out.low hb)
  have OA := hid hoa
  have AA := hid haa
  clear hoa haa hb AP c0 c1 c2 c3 c4 c5 c6 c7 hbz
  have AP := AP3
  clear AP3
  have c0 := AP.out.bx 0 _ rfl
  have c1 := AP.out.bx 1 _ rfl
  have c2 := AP.out.bx 2 _ rfl
  have c3 := AP.out.bx 3 _ rfl
  have c4 := AP.out.bx 4 _ rfl
  have c5 := AP.out.bx 5 _ rfl
  have c6 := AP.out.bx 6 _ rfl
  have c7 := AP.out.bx 7 _ rfl
  have hbz := Nat.lt_of_lt_of_le AP.out.bl AP.out.top
  go_wp2_with fail
  refine (HA.out.ask _ _ l AP.out.bel AP.out.came HG.out).mono ?_
  rintro e w4 ⟨vb, lb, rfl, hob, hab, hb⟩
  have HB3 := hid AP.out.top
  obtain rfl := HA.out.uni l _ _ hab AA.out
  have AP3 := hid (AP.out.low hb)
  have OA4 := hid (own_low OA.out hb)
  have OB := hid hob
  have LA := hid (own_lt OA.out)
  have H34 := hid hb.size
  clear hob hab hb AP OA c0 c1 c2 c3 c4 c5 c6 c7 hbz
  have AP := AP3
  have OA := OA4
  clear AP3 OA4
  have c0 := AP.out.bx 0 _ rfl
  have c1 := AP.out.bx 1 _ rfl
  have c2 := AP.out.bx 2 _ rfl
  have c3 := AP.out.bx 3 _ rfl
  have c4 := AP.out.bx 4 _ rfl
  have c5 := AP.out.bx 5 _ rfl
  have c6 := AP.out.bx 6 _ rfl
  have c7 := AP.out.bx 7 _ rfl
  have hbz := Nat.lt_of_lt_of_le AP.out.bl AP.out.top
  go_wp2_with fail
  refine (HA.out.want _ _ l AP.out.bel (HL.out.low AP.out.bel) HG.out).mono ?_
  rintro e w5 ⟨vw, lw, rfl, how, haw, hb⟩
  have HB4 := hid AP.out.top
  obtain rfl := HA.out.uni l _ _ haw AA.out
  have AP3 := hid (AP.out.low hb)
  have OA4 := hid (own_low OA.out hb)
  have OB4 := hid (own_low OB.out hb)
  have OW := hid how
  have HLA := hid (HA.out.len l _ HG.out AA.out)
  clear how haw hb AP OA OB c0 c1 c2 c3 c4 c5 c6 c7 hbz
  have AP := AP3
  have OA := OA4
  have OB := OB4
  clear AP3 OA4 OB4
  have c0 := AP.out.bx 0 _ rfl
  have c1 := AP.out.bx 1 _ rfl
  have c2 := AP.out.bx 2 _ rfl
  have c3 := AP.out.bx 3 _ rfl
  have c4 := AP.out.bx 4 _ rfl
  have c5 := AP.out.bx 5 _ rfl
  have c6 := AP.out.bx 6 _ rfl
  have c7 := AP.out.bx 7 _ rfl
  have hbz := Nat.lt_of_lt_of_le AP.out.bl AP.out.top
  go_wp2_with fail
  refine (untouched_any _ g cap L (.slice aL L cL) l _ AP.out.all HLL.out (HL.out.low AP.out.bel).items (by omega)).mono ?_
  rintro e w6 ⟨rfl, hb⟩
  have AP3 := hid (AP.out.low hb)
  have OA4 := hid (own_low OA.out hb)
  have OB4 := hid (own_low OB.out hb)
  have OW4 := hid (own_low OW.out hb)
  clear hb AP OA OB OW c0 c1 c2 c3 c4 c5 c6 c7 hbz
  have AP := AP3
  have OA := OA4
  have OB := OB4
  have OW := OW4
  clear AP3 OA4 OB4 OW4
  go_wp2_with fail
  refine (same_long va vw _ _ (own_items OA.out) (own_items OW.out) (by have := HLA.out.2; omega)).mono ?_
  rintro e w7 ⟨rfl, hb⟩
  have AP3 := hid (AP.out.low hb)
  have OA4 := hid (own_low OA.out hb)
  have OB4 := hid (own_low OB.out hb)
  have OW4 := hid (own_low OW.out hb)
  clear hb AP OA OB OW
  have AP := AP3
  have OA := OA4
  have OB := OB4
  have OW := OW4
  clear AP3 OA4 OB4 OW4
  go_wp2_with fail
  refine (same_long vb vw _ _ (own_items OB.out) (own_items OW.out) (by have := HLA.out.2; omega)).mono ?_
  rintro e w8 ⟨rfl, hb⟩
  have AP3 := hid (AP.out.low hb)
  have OA4 := hid (own_low OA.out hb)
  have OB4 := hid (own_low OB.out hb)
  have OW4 := hid (own_low OW.out hb)
  clear hb AP OA OB OW
  have AP := AP3
  have OA := OA4
  have OB := OB4
  have OW := OW4
  clear AP3 OA4 OB4 OW4
  go_wp2_with fail
  refine (spoil_any va _ _ _ _ OA.out (by have := AP.out.top; have := HBB.out; omega) HLA.out).mono ?_
  rintro e w9 ⟨rfl, hg9⟩
  have AP3 := hid (AP.out.lowB (gby_below hg9 (fun k hk => by have := own_base OA.out k hk; have := HBB.out; omega) AP.out.top))
  have OB4 := hid (own_grown OB.out hg9 (fun k hk => LA.out k hk))
  have OW4 := hid (own_grown OW.out hg9 (fun k hk => by have := LA.out k hk; have := H34.out; omega))
  clear hg9 AP OA OB OW LA
  have AP := AP3
  have OB := OB4
  have OW := OW4
  clear AP3 OB4 OW4
  go_wp2_with fail
  refine (same_long vb vw _ _ (own_items OB.out) (own_items OW.out) (by have := HLA.out.2; omega)).mono ?_
  rintro e w10 ⟨rfl, hb⟩
  have AP3 := hid (AP.out.low hb)
  have OB4 := hid (own_low OB.out hb)
  have OW4 := hid (own_low OW.out hb)
  clear hb AP OB OW 
  have AP := AP3
  have OB := OB4
  have OW := OW4
  clear AP3 OB4 OW4
  have c0 := AP.out.bx 0 _ rfl
  have c1 := AP.out.bx 1 _ rfl
  have c2 := AP.out.bx 2 _ rfl
  have c3 := AP.out.bx 3 _ rfl
  have c4 := AP.out.bx 4 _ rfl
  have c5 := AP.out.bx 5 _ rfl
  have c6 := AP.out.bx 6 _ rfl
  have c7 := AP.out.bx 7 _ rfl
  have hbz := Nat.lt_of_lt_of_le AP.out.bl AP.out.top
  go_wp2_with fail
  refine (untouched_any _ g cap L (.slice aL L cL) l _ AP.out.all HLL.out (HL.out.low AP.out.bel).items (by omega)).mono ?_
  rintro e w11 ⟨rfl, hb⟩
  have AP3 := hid (AP.out.low hb)
  have OB4 := hid (own_low OB.out hb)
  have OW4 := hid (own_low OW.out hb)
  clear hb AP OB OW c0 c1 c2 c3 c4 c5 c6 c7 hbz
  have AP := AP3
  have OB := OB4
  have OW := OW4
  clear AP3 OB4 OW4
  have c0 := AP.out.bx 0 _ rfl
  have c1 := AP.out.bx 1 _ rfl
  have c2 := AP.out.bx 2 _ rfl
  have c3 := AP.out.bx 3 _ rfl
  have c4 := AP.out.bx 4 _ rfl
  have c5 := AP.out.bx 5 _ rfl
  have c6 := AP.out.bx 6 _ rfl
  have c7 := AP.out.bx 7 _ rfl
  have hbz := Nat.lt_of_lt_of_le AP.out.bl AP.out.top
  go_wp2_with fail
  refine (copied_own _ c _ (HO.out.low AP.out.bel) HGC.out).mono ?_
  rintro e w12 ⟨vo, rfl, hoo, hb⟩
  have OO := hid hoo
  have H12 := hid hb.size
  have H11 := hid (show B ≤ w11.heap.size from AP.out.top)
  have LB := hid (own_lt OB.out)
  have LW := hid (own_lt OW.out)
  clear hoo
  have AP3 := hid (AP.out.low hb)
  have OB4 := hid (own_low OB.out hb)
  have OW4 := hid (own_low OW.out hb)
  clear hb AP OB OW c0 c1 c2 c3 c4 c5 c6 c7 hbz
  have AP := AP3
  have OB := OB4
  have OW := OW4
  clear AP3 OB4 OW4
  obtain ⟨BO, hBO⟩ : ∃ B, B = w11.heap.size := ⟨_, rfl⟩
  rw [← hBO] at OO H11 LB LW
  have HBO := hid (show BO ≤ w12.heap.size by rw [hBO]; exact H12.out)
  clear hBO H12
  obtain ⟨ao, co, hvo⟩ := own_form OO.out
  rw [← HCC.out] at hvo
  subst hvo
  go_wp2_with fail
  go_loopw [10] (fun o wr => ∃ lo : List Lb, Hid (Own wr BO o lo) ∧ Hid (lo.length ≤ 4398046510976 ∧ ∀ x ∈ lo, x.1.size ≤ maxLen ∧ x.2.size ≤ maxLen) ∧ Hid (Ap w wr [.int .i64 K, .slice aL L cL, .slice aO C cO, .slice aD nD cD, .string s, .string ks, .string vs, .int .i64 n] g cap L l B) ∧ Hid (Own wr w3.heap.size vb lw) ∧ Hid (Own wr w4.heap.size vw lw) ∧ Hid (BO ≤ wr.heap.size)) (fun o _ => L - slLen o)
  case atStart => exact ⟨c, OO, hid ⟨by rw [← HCC.out]; exact hc2, HGC.out.2⟩, AP, OB, OW, HBO⟩
  case round =>
    obtain ⟨lo, OO, HLO, AP, OB, OW, HBO⟩ := hrel
    obtain ⟨ao, co, hvo⟩ := own_form OO.out
    subst hvo
    obtain ⟨m, hm⟩ : ∃ m, m = lo.length := ⟨_, rfl⟩
    have HM := hid hm
    have hm2 := HLO.out.1
    rw [← hm] at hm2 OO ⊢
    clear hm
    by_cases hlt : m < L
    · have g1 : (m : Int) < (L : Int) := by omega
      have kc := run_convert_bytes_arg (P := Tryz.prog) (wr.alloc (.cells #[.int .u8 (97 + (m : Int) % 26)] 5)) 43 5 Tryz.underlying43 Tryz.underlying5 wr.heap.size 0 1 1 [97 + (m : Int) % 26] rfl (fun j hj => by
        match j, hj with
        | 0, _ => simp) 9 Tryz.underlying9
      have HT := hid (show (strOfNums [97 + (m : Int) % 26]).size = 1 from rfl)
      generalize strOfNums [97 + (m : Int) % 26] = t at *
      have hns : ¬ (9223372036854775807 < 1 + t.size) := by have := HT.out; omega
      have K1 := hid (cell_two_at (wr.alloc (.cells #[.int .u8 (97 + (m : Int) % 26)] 5)) (wr.heap.size + 1) (.string (⟨#[122]⟩ ++ t)) (.string ⟨#[49]⟩) 36 (by simp))
      have K2 := hid (World.ownsRow.alloc (World.ownsRow.alloc OO.out (.cells #[.int .u8 (97 + (m : Int) % 26)] 5)) (.cells #[.string (⟨#[122]⟩ ++ t), .string ⟨#[49]⟩] 36))
      have K3 := hid (w_bel (belowA wr (.cells #[.int .u8 (97 + (m : Int) % 26)] 5)) (belowA _ (.cells #[.string (⟨#[122]⟩ ++ t), .string ⟨#[49]⟩] 36)))
      have P1 := hid (show lo.length + 1 ≤ maxLen by rw [← HM.out]; unfold maxLen; omega)
      have P2 := hid (show (lo.length + 1) * 32 ≤ 140737488355328 by rw [← HM.out]; omega)
      have P3 := hid (Nat.le_trans HBO.out K3.out.size)
      go_wp2_with (at_builtin; refine wpList_append_own _ rfl _ _ 22 rfl BO 36 i0 (.agg #[.string ByteArray.empty, .string ByteArray.empty]) 2 32 Tryz.underlying22 hi0 hz0 hz1 hz2 rfl (by decide) (.slice ao m co) _ _ rfl K2.out ⟨wr.heap.size + 1, 0, none⟩ 1 1 [.string (⟨#[122]⟩ ++ t), .string ⟨#[49]⟩] rfl rfl K1.out (fun x hx => by simp at hx; rcases hx with rfl | rfl <;> rfl) P1.out P2.out P3.out ?_; intro v3 y3 o3 g3 _)
      have BG := hid (show Below BO wr y3 from (K3.out.mono HBO.out).grown g3 P3.out (fun k hk => own_base OO.out k hk))
      have N1 := hid (show Own y3 BO v3 (lo ++ [(⟨#[122]⟩ ++ t, ⟨#[49]⟩)]) from own_snoc o3)
      have N2 := hid (show (lo ++ [((⟨#[122]⟩ ++ t : ByteArray), (⟨#[49]⟩ : ByteArray))]).length ≤ 4398046510976 ∧ ∀ x ∈ lo ++ [((⟨#[122]⟩ ++ t : ByteArray), (⟨#[49]⟩ : ByteArray))], x.1.size ≤ maxLen ∧ x.2.size ≤ maxLen from ⟨by rw [List.length_append, ← HM.out]; simp; omega, fun x hx => by
        rcases List.mem_append.1 hx with h | h
        · exact HLO.out.2 x h
        · rw [List.mem_singleton.1 h]
          refine ⟨?_, by show (1 : Nat) ≤ maxLen; unfold maxLen; decide⟩
          show (⟨#[122]⟩ ++ t : ByteArray).size ≤ maxLen
          rw [ByteArray.size_append, HT.out]
          unfold maxLen
          decide⟩)
      have N3 := hid (AP.out.lowB (BG.out.mono H11.out))
      have N4 := hid (own_in OB.out LB.out BG.out)
      have N5 := hid (own_in OW.out LW.out BG.out)
      have N6 := hid (show BO ≤ y3.heap.size from Nat.le_trans P3.out g3.size)
      obtain ⟨a3, c3, e3⟩ := own_form N1.out
      have HL3 := hid (show (lo ++ [((⟨#[122]⟩ ++ t : ByteArray), (⟨#[49]⟩ : ByteArray))]).length = m + 1 by rw [List.length_append, ← HM.out]; rfl)
      rw [HL3.out] at e3
      subst e3
      clear o3 g3 K1 K2 K3 kc hns
      go_wp2_with fail
      exact ⟨⟨_, N1, N2, N3, N4, N5, N6⟩, by simp [slLen]; omega⟩
    · have g1 : ¬ (m : Int) < (L : Int) := by omega
      have hmc : m ≤ co := by
        rcases OO.out.2 with ⟨e, _⟩ | ⟨g', cp', cur, e, _, _, hc, _⟩
        · injection e with _ e2 e3; omega
        · injection e with _ e2 e3; rw [← HM.out] at hc; omega
      have c0 := AP.out.bx 0 _ rfl
      have c1 := AP.out.bx 1 _ rfl
      have c2 := AP.out.bx 2 _ rfl
      have c3 := AP.out.bx 3 _ rfl
      have c4 := AP.out.bx 4 _ rfl
      have c5 := AP.out.bx 5 _ rfl
      have c6 := AP.out.bx 6 _ rfl
      have c7 := AP.out.bx 7 _ rfl
      have hbz := Nat.lt_of_lt_of_le AP.out.bl AP.out.top
      go_wp2_with fail
      refine (HA.out.ask _ _ l AP.out.bel AP.out.came HG.out).mono ?_
      rintro e y1 ⟨vc, lc, rfl, hoc, hac, hb⟩
      obtain rfl := HA.out.uni l _ _ hac AA.out
      have HBR := hid AP.out.top
      have OC := hid hoc
      have HLM := hid (show L ≤ m by omega)
      have HGO := hid (show Good (lo.take L) from ⟨⟨by rw [List.length_take]; unfold maxLen; omega, by rw [List.length_take]; omega⟩, fun x hx => HLO.out.2 x (List.mem_of_mem_take hx)⟩)
      have HVL := hid (show (lo.take L).length = L by rw [List.length_take, ← HM.out]; omega)
      clear hoc hac
      have AP3 := hid (AP.out.low hb)
      have OB4 := hid (own_low OB.out hb)
      have OW4 := hid (own_low OW.out hb)
      have OO4 := hid (own_low OO.out hb)
      clear hb AP OB OW OO c0 c1 c2 c3 c4 c5 c6 c7 hbz
      have AP := AP3
      have OB := OB4
      have OW := OW4
      have OO := OO4
      clear AP3 OB4 OW4 OO4
      have AP3 := hid (show Ap w y1 [.int .i64 K, .slice aL L cL, .slice aO C cO, .slice aD nD cD, .string s, .string ks, .string vs, .int .i64 n] g cap L (mixL (lo.take L) l 0) B by rw [mix_zero]; exact AP.out)
      clear AP
      have AP := AP3
      clear AP3
      generalize hwr : wr.heap.size = R at *
      clear hwr
      go_wp2_with fail
      go_loopw [12] (fun i wr => ∃ k : Nat, k ≤ L ∧ i = .int .i64 k ∧ Hid (Ap w wr [.int .i64 K, .slice aL L cL, .slice aO C cO, .slice aD nD cD, .string s, .string ks, .string vs, .int .i64 n] g cap L (mixL (lo.take L) l k) B) ∧ Hid (Own wr BO (.slice ao m co) lo) ∧ Hid (Own wr w3.heap.size vb lc) ∧ Hid (Own wr w4.heap.size vw lc) ∧ Hid (Own wr R vc lc)) (fun i _ => L - (intOf i).toNat)
      case atStart => exact ⟨0, Nat.zero_le _, rfl, AP, OO, OB, OW, OC⟩
      case round =>
        obtain ⟨k, hk, rfl, AP, OO, OB, OW, OC⟩ := hrel
        by_cases hlt2 : k < L
        · have g1 : (k : Int) < (L : Int) := by omega
          have g0 : (0 : Int) ≤ (k : Int) := by omega
          obtain ⟨g2, co2, cur2, ev, hbg, _⟩ := own_real OO.out HM.out.symm (by have := HLM.out; omega)
          injection ev with ea _ ec
          subst ea ec
          obtain ⟨a', c', ei, hi2⟩ := own_items OO.out
          have hq : wr.cell? ⟨g2, k * 2, none⟩ = some (.string (ky (lo.take L) k)) ∧ wr.cell? ⟨g2, k * 2 + 1, none⟩ = some (.string (vl (lo.take L) k)) := by
            rcases hi2 with h0 | ⟨b, off, eb, hbl, hc⟩
            · have := HLM.out; have := HM.out; omega
            · injection ei with e1 _ _
              rw [eb] at e1
              injection e1 with e1
              injection e1 with e1 e2 _
              subst e1 e2
              rw [(ky_take hlt2).1, (ky_take hlt2).2]
              have := hc k (by have := HLM.out; have := HM.out; omega)
              rwa [Nat.zero_add] at this
          obtain ⟨q0, q1⟩ := hq
          obtain ⟨g3, cp3, cur3, ev3, _, hcur, hnc, hcs⟩ := own_real AP.out.all (show (mixL (lo.take L) l k ++ spr 80).length = L + 80 by rw [List.length_append, spr_len, ← AP.out.len]) (by omega)
          injection ev3 with ea3 _ ec3
          injection ea3 with ea3
          injection ea3 with ea3 _ _
          subst ea3 ec3
          obtain ⟨u0, k0, f0⟩ := cell_of hcur (show k * 2 < cur3.size by rw [hcs]; omega)
          obtain ⟨u1, k1, f1⟩ := cell_of hcur (show k * 2 + 1 < cur3.size by rw [hcs]; omega)
          have hgl := AP.out.gl
          have N1 := hid (show Ap w (put2 wr g (k * 2) (.string (ky (lo.take L) k)) (.string (vl (lo.take L) k))) [.int .i64 K, .slice aL L cL, .slice aO C cO, .slice aD nD cD, .string s, .string ks, .string vs, .int .i64 n] g cap L (mixL (lo.take L) l (k + 1)) B by
            rw [← mix_next (lo.take L) l k (by rw [HVL.out]; exact hlt2) (by rw [← HLL.out]; exact hlt2)]
            exact AP.out.put k _ _ hlt2)
          have N2 := hid (own_put (g := g) (o := k * 2) OO.out (by have := H11.out; omega) (.string (ky (lo.take L) k)) (.string (vl (lo.take L) k)))
          have N3 := hid (own_put (g := g) (o := k * 2) OB.out (by have := HB3.out; omega) (.string (ky (lo.take L) k)) (.string (vl (lo.take L) k)))
          have N4 := hid (own_put (g := g) (o := k * 2) OW.out (by have := HB4.out; omega) (.string (ky (lo.take L) k)) (.string (vl (lo.take L) k)))
          have N5 := hid (own_put (g := g) (o := k * 2) OC.out (by have := HBR.out; omega) (.string (ky (lo.take L) k)) (.string (vl (lo.take L) k)))
          unfold put2 at N1 N2 N3 N4 N5
          generalize ky (lo.take L) k = s1 at *
          generalize vl (lo.take L) k = s2 at *
          clear hi2 hcur hnc hcs AP OO OB OW OC ei hgl
          go_wp2_with fail
          exact ⟨⟨k + 1, by omega, by go_num, N1, N2, N3, N4, N5⟩, by simp [intOf]; omega⟩
        · obtain rfl : L = k := by omega
          have g1 : ¬ (L : Int) < (L : Int) := by omega
          have AP3 := hid (show Ap w wr [.int .i64 K, .slice aL L cL, .slice aO C cO, .slice aD nD cD, .string s, .string ks, .string vs, .int .i64 n] g cap L (lo.take L) B by
            have h := AP.out
            rw [mix_full _ _ L HVL.out HLL.out.symm] at h
            exact h)
          clear AP
          have AP := AP3
          clear AP3
          go_wp2_with fail
          refine (same_long vb vw _ _ (own_items OB.out) (own_items OW.out) (by have := HLA.out.2; omega)).mono ?_
          rintro e y2 ⟨rfl, hb⟩
          have AP3 := hid (AP.out.low hb)
          have OB4 := hid (own_low OB.out hb)
          have OW4 := hid (own_low OW.out hb)
          have OO4 := hid (own_low OO.out hb)
          have OC4 := hid (own_low OC.out hb)
          clear hb AP OB OW OO OC 
          have AP := AP3
          have OB := OB4
          have OW := OW4
          have OO := OO4
          have OC := OC4
          clear AP3 OB4 OW4 OO4 OC4
          go_wp2_with fail
          refine (same_long vc vw _ _ (own_items OC.out) (own_items OW.out) (by have := HLA.out.2; omega)).mono ?_
          rintro e y3 ⟨rfl, hb⟩
          have AP3 := hid (AP.out.low hb)
          have OO4 := hid (own_low OO.out hb)
          clear hb AP OO 
          have AP := AP3
          have OO := OO4
          clear AP3 OO4
          have c0 := AP.out.bx 0 _ rfl
          have c1 := AP.out.bx 1 _ rfl
          have c2 := AP.out.bx 2 _ rfl
          have c3 := AP.out.bx 3 _ rfl
          have c4 := AP.out.bx 4 _ rfl
          have c5 := AP.out.bx 5 _ rfl
          have c6 := AP.out.bx 6 _ rfl
          have c7 := AP.out.bx 7 _ rfl
          have hbz := Nat.lt_of_lt_of_le AP.out.bl AP.out.top
          go_wp2_with fail
          refine (HA.out.ask _ _ _ AP.out.bel AP.out.came HGO.out).mono ?_
          rintro e y4 ⟨vd, ld, rfl, hod, had, hb⟩
          have OD := hid hod
          have AD := hid had
          clear hod had
          have AP3 := hid (AP.out.low hb)
          have OO4 := hid (own_low OO.out hb)
          clear hb AP OO c0 c1 c2 c3 c4 c5 c6 c7 hbz
          have AP := AP3
          have OO := OO4
          clear AP3 OO4
          have c0 := AP.out.bx 0 _ rfl
          have c1 := AP.out.bx 1 _ rfl
          have c2 := AP.out.bx 2 _ rfl
          have c3 := AP.out.bx 3 _ rfl
          have c4 := AP.out.bx 4 _ rfl
          have c5 := AP.out.bx 5 _ rfl
          have c6 := AP.out.bx 6 _ rfl
          have c7 := AP.out.bx 7 _ rfl
          have hbz := Nat.lt_of_lt_of_le AP.out.bl AP.out.top
          go_wp2_with fail
          refine (HA.out.want _ _ _ AP.out.bel (own_came_take OO.out HM.out HLM.out) HGO.out).mono ?_
          rintro e y5 ⟨vx, lx, rfl, hox, hax, hb⟩
          obtain rfl := HA.out.uni _ _ _ hax AD.out
          have OX := hid hox
          clear hox hax
          have AP3 := hid (AP.out.low hb)
          have OO4 := hid (own_low OO.out hb)
          have OD4 := hid (own_low OD.out hb)
          clear hb AP OO OD c0 c1 c2 c3 c4 c5 c6 c7 hbz
          have AP := AP3
          have OO := OO4
          have OD := OD4
          clear AP3 OO4 OD4
          go_wp2_with fail
          refine (same_long vd vx _ _ (own_items OD.out) (own_items OX.out) (by have := (HA.out.len _ _ HGO.out AD.out).2; omega)).mono ?_
          rintro e y6 ⟨rfl, hb⟩
          have AP3 := hid (AP.out.low hb)
          have OO4 := hid (own_low OO.out hb)
          clear hb AP OO 
          have AP := AP3
          have OO := OO4
          clear AP3 OO4
          go_wp2_with fail
          refine (untouched_any _ g cap L _ _ _ AP.out.all HVL.out.symm (own_came_take OO.out HM.out HLM.out).items (by omega)).mono ?_
          rintro e y7 ⟨rfl, hb⟩
          have RF := hid (show Below w.heap.size w y7 from w_bel AP.out.bel hb)
          clear hb
          go_wp2_with fail
          go_ret
          exact ⟨rfl, RF.out⟩
end Go.Proofs.YtkbjjbgmnfngjaaGreatDoor.L
