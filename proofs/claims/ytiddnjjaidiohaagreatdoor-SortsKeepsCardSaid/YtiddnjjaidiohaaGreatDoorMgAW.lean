import Derived.Test.YtiddnjjaidiohaaGreatDoorMgAL
import Derived.Test.YtiddnjjaidiohaaGreatDoorSg7
namespace Go.Proofs.YtiddnjjaidiohaaGreatDoor.L
open Go.RowKit
set_option linter.unusedVariables false
/-- A row of numbers of one's own, by a function. -/
def InO (W : World) (base gm n : Nat) (m : Nat → Int) : Prop := ∃ zs : List Int, OwnI W base (.slice (some ⟨gm, 0, none⟩) n n) zs ∧ n = zs.length ∧ ∀ j, j < n → zs.getD j 0 = m j
theorem InO.cell {W : World} {base gm n : Nat} {m : Nat → Int} (h : InO W base gm n m) {j : Nat} (hj : j < n) : W.cell? ⟨gm, j, none⟩ = some (.int .i64 (m j)) ∧ W.frozen? ⟨gm, j, none⟩ = false := by
  obtain ⟨zs, h1, h2, h3⟩ := h
  rw [← h3 j hj]
  exact own_cell h1 h2 j hj
theorem InO.low {W W' : World} {base gm n : Nat} {m : Nat → Int} (h : InO W base gm n m) (hb : Below W.heap.size W W') : InO W' base gm n m := by
  obtain ⟨zs, h1, h2, h3⟩ := h
  exact ⟨zs, own_low h1 hb, h2, h3⟩
theorem InO.lt {W : World} {base gm n : Nat} {m : Nat → Int} (h : InO W base gm n m) : base ≤ gm ∧ gm < W.heap.size := by
  obtain ⟨zs, h1, h2, h3⟩ := h
  exact own_block h1 gm rfl
theorem But.setc (g : Nat) (W : World) (j : Nat) (v : Value) : But g W (W.setCell ⟨g, j, none⟩ v) := ⟨rfl, rfl, rfl, by simp, fun b hb hg => Below.heap_setCell _ _ _ _ hg⟩
theorem InO.set {W : World} {base gm n : Nat} {m : Nat → Int} (h : InO W base gm n m) {t : Nat} (ht : t < n) (v : Int) : InO (W.setCell ⟨gm, t, none⟩ (.int .i64 v)) base gm n (fun j => if j = t then v else m j) := by
  obtain ⟨zs, h1, h2, h3⟩ := h
  refine ⟨zs.set t v, (own_set h1 h2 t v).1, by rw [List.length_set]; exact h2, fun j hj => ?_⟩
  by_cases e : j = t
  · subst e
    rw [List.getD_eq_getElem?_getD, List.getElem?_set_self (by omega)]
    simp
  · rw [List.getD_eq_getElem?_getD, List.getElem?_set_ne (by omega), ← List.getD_eq_getElem?_getD, h3 j hj]
    simp only [if_neg e]
theorem InO.congr {W : World} {base gm n : Nat} {m m' : Nat → Int} (h : InO W base gm n m) (e : ∀ j, j < n → m j = m' j) : InO W base gm n m' := by
  obtain ⟨zs, h1, h2, h3⟩ := h
  exact ⟨zs, h1, h2, fun j hj => (h3 j hj).trans (e j hj)⟩
theorem ino_made (w : World) (n base : Nat) (hn : n ≤ 1000) (hb : base ≤ w.heap.size) : InO (w.alloc (.cells (madeCells #[.int .i64 0] n) 3)) base w.heap.size n (fun _ => 0) :=
  ⟨_, own_made w n base hn hb, by simp, fun j hj => by rw [List.getD_eq_getElem?_getD, List.getElem?_replicate, if_pos hj]; rfl⟩
theorem drop_at {ks : List Int} {j : Nat} (h : j < ks.length) : ks.drop j = ks.getD j 0 :: ks.drop (j + 1) := by
  rw [List.drop_eq_getElem_cons h, List.getD_eq_getElem?_getD, List.getElem?_eq_getElem h]
  rfl
end Go.Proofs.YtiddnjjaidiohaaGreatDoor.L
namespace Go.Proofs.YtiddnjjaidiohaaGreatDoor.L
open Go.RowKit
set_option linter.unusedVariables false
theorem mem_take_succ {ks : List Int} {q : Nat} (h : q < ks.length) (z : Int) : z ∈ ks.take (q + 1) ↔ z ∈ ks.take q ∨ z = ks.getD q 0 := by
  rw [List.take_add_one, List.getElem?_eq_getElem h, List.mem_append, List.getD_eq_getElem?_getD, List.getElem?_eq_getElem h]
  simp
set_option maxHeartbeats 16000000 in
set_option maxRecDepth 100000 in
theorem rscopes_any (a : Option Addr) (T : List Pt) (cap : Nat) (sc : Int) (w : World) (hT : PL w a T) (hG : GdS T) (h1 : 1 ≤ T.length) :
    Calls Tryz.prog 23 #[.agg #[.slice a T.length cap], .int .i64 sc] w fun e w' => ∃ gm, e = .returned (.slice (some ⟨gm, 0, none⟩) T.length T.length) ∧ (gm < w'.heap.size ∧ ∀ j, j < T.length → w'.cell? ⟨gm, j, none⟩ = some (.int .i64 (scN T sc 0 T.length j))) ∧ Below w.heap.size w w' := by
  have HGS := hid hG
  have hL := hG.len
  obtain ⟨L, hLe⟩ : ∃ L, L = T.length := ⟨_, rfl⟩
  have HL := hid hLe
  have HT := hid hT
  have HSE := hid rsel_any
  rw [← hLe] at hL h1 ⊢
  have MK := fun W => make_ints L hL W
  have HB0 := hid (belowA w (.cells #[.slice a L cap] 26))
  have HX0 := hid (heap_alloc_new w (.cells #[.slice a L cap] 26))
  have HS0 := hid (show (w.alloc (.cells #[.slice a L cap] 26)).heap.size = w.heap.size + 1 by simp)
  clear hT hG hLe
  go_enter Tryz.func23, Tryz.ntmps23
  go_upto_region 1 with (fail)
  have HM0 := hid (ino_made (w.alloc (.cells #[.slice a L cap] 26)) L (w.alloc (.cells #[.slice a L cap] 26)).heap.size hL (Nat.le_refl _))
  have HBM := hid (belowA (w.alloc (.cells #[.slice a L cap] 26)) (.cells (madeCells #[.int .i64 0] L) 3))
  have HG1 := hid (show w.heap.size < (w.alloc (.cells #[.slice a L cap] 26)).heap.size from lt_blk HX0.out)
  generalize w.alloc (.cells #[.slice a L cap] 26) = X at *
  have x0 := cell_of_one HX0.out
  go_upto_region 2 with (fail)
  clear x0 MK
  have HXM := hid ((HBM.out.block _ (lt_blk HX0.out)).trans HX0.out)
  have HBW := hid (bchS HB0.out HBM.out)
  generalize X.alloc (.cells (madeCells #[.int .i64 0] L) 3) = M at *
  generalize X.heap.size = gm at *
  have hl0 : L - 1 < L := by omega
  have ⟨c0, f0⟩ := HM0.out.cell hl0
  have g1 : (0 : Int) < (L : Int) := by omega
  have g2 : (0 : Int) ≤ (L : Int) - 1 := by omega
  have g3 : (L : Int) - 1 < (L : Int) := by omega
  have g4 : ((L : Int) - 1).toNat = L - 1 := by omega
  have hd0 : decide (0 < L) = true := decide_eq_true (by omega)
  have HM1 := hid (HM0.out.set hl0 sc)
  have HT1 := hid (But.setc gm M (L - 1) (.int .i64 sc))
  go_upto_region 4 with (fail)
  clear c0 f0
  generalize M.setCell ⟨gm, L - 1, none⟩ (.int .i64 sc) = M1 at *
  go_wp2_with fail
  go_loopw [6] (fun i wr => ∃ (k : Nat) (z : Int), k ≤ L ∧ Hid (z + (k : Int) + 1 = (L : Int)) ∧ i = .int .i64 z ∧ Hid (But gm M wr) ∧ Hid (InO wr gm gm L (scN T sc 0 k))) (fun i _ => (intOf i + 1).toNat)
  case atStart => exact ⟨0, (L : Int) - 1, Nat.zero_le _, hid (by simp), rfl, HT1, hid (HM1.out.congr (fun j _ => by simp only [scN]; rw [← HL.out]))⟩
  case round =>
    obtain ⟨k, z, hk, HZ, rfl, HBT, HMK⟩ := hrel
    have HB6 := hid (but_below HBW.out HBT.out (Nat.le_of_lt HG1.out))
    have HX6 := hid ((HBT.out.block _ (lt_blk HXM.out) (Nat.ne_of_lt HG1.out)).trans HXM.out)
    by_cases hkl : k < L
    · obtain ⟨p, rfl⟩ : ∃ p : Nat, z = p := ⟨z.toNat, by have := HZ.out; omega⟩
      have hp : p = L - 1 - k := by have := HZ.out; omega
      have hpl : p < L := by omega
      have hki : (p : Int) < (L : Int) := by omega
      have hk0 : (0 : Int) ≤ (p : Int) := by omega
      rcases HT.out with h0 | ⟨b2, o2, rfl, hb2, hc2⟩
      · have := HL.out; omega
      obtain ⟨ka, kc, q0, q1, q2, q3, rk⟩ := hc2 p (by rw [← HL.out]; exact hpl)
      replace q0 := (HB6.out.cell (p := ⟨b2, o2 + p * 4, none⟩) hb2).trans q0
      replace q1 := (HB6.out.cell (p := ⟨b2, o2 + p * 4 + 1, none⟩) hb2).trans q1
      replace q2 := (HB6.out.cell (p := ⟨b2, o2 + p * 4 + 2, none⟩) hb2).trans q2
      replace q3 := (HB6.out.cell (p := ⟨b2, o2 + p * 4 + 3, none⟩) hb2).trans q3
      have hml := HGS.out.kl p (by rw [← HL.out]; exact hpl)
      have hkd := HGS.out.kid p (by rw [← HL.out]; exact hpl)
      have HSC := hid (show ∀ z : Nat, scN T sc 0 (k + 1) z = if (z : Int) ∈ (pt T p).kids then scpO (pt T p).kind (scN T sc 0 k p) else scN T sc 0 k z from fun z => by rw [hp, HL.out]; rfl)
      obtain ⟨pp, hpp⟩ : ∃ pp, pp = pt T p := ⟨_, rfl⟩
      rw [← hpp] at q0 q1 q2 q3 rk hml hkd HSC
      obtain ⟨kd, tx, nu, ks⟩ := pp
      simp only at q0 q1 q2 q3 rk hml hkd HSC
      obtain ⟨m, hm⟩ : ∃ m, m = ks.length := ⟨_, rfl⟩
      rw [← hm] at q3 hml
      have HM := hid hm
      have RK := hid rk
      have HKD := hid hkd
      have hk4 : ((p : Int) * 4).toNat = p * 4 := by omega
      have HVB := hid (belowA wr (.cells #[.int .i64 kd, .string tx, .int .i64 nu, .slice ka m kc] 60))
      have HVP := hid (heap_alloc_new wr (.cells #[.int .i64 kd, .string tx, .int .i64 nu, .slice ka m kc] 60))
      have x0 := cell_of_one HX6.out
      clear hc2 rk hpp hm hkd hp
      go_upto_region 8 with (fail)
      clear q0 q1 q2 q3 hb2 x0
      have HMV := hid (HMK.out.low HVB.out)
      have HTV := hid (HBT.out.trans (But.of HVB.out))
      have hpg : wr.heap.size ≠ gm := by have h1 := HMK.out.lt.2; omega
      generalize wr.alloc (.cells #[.int .i64 kd, .string tx, .int .i64 nu, .slice ka m kc] 60) = V at *
      generalize wr.heap.size = pb at *
      have HBV := hid (but_below HBW.out HTV.out (Nat.le_of_lt HG1.out))
      have ⟨z0, z1, z2, z3⟩ := cells4 HVP.out
      have ⟨c5, f5⟩ := HMV.out.cell hpl
      have HS2 := hid (fun W => rsel_any kd W)
      generalize hsv : scN T sc 0 k p = sv at *
      clear hsv
      cases hsel : selB kd
      · rw [hsel] at HS2
        have HSCB := hid (show scpO kd sv = sv by unfold scpO; rw [hsel]; rfl)
        clear hsel
        go_wp2_with (go_at_call 30; refine (HS2.out _).mono ?_; rintro e w1 ⟨rfl, hww⟩; have hw2 := hww.symm; clear hww; subst hw2)
        clear z0 z1 z2 z3 c5 f5
        go_loopw [9] (fun j wr2 => ∃ q : Nat, q ≤ m ∧ j = .int .i64 (q : Int) ∧ Hid (But gm V wr2) ∧ Hid (InO wr2 gm gm L (fun z => if (z : Int) ∈ ks.take q then sv else scN T sc 0 k z))) (fun j _ => m - (intOf j).toNat)
        case atStart => exact ⟨0, Nat.zero_le _, rfl, hid (But.refl _ _), hid (HMV.out.congr (fun j _ => by simp))⟩
        case round =>
          obtain ⟨q, hq, rfl, HB7, HM7⟩ := hrel
          have BW := hid (but_below HBV.out HB7.out (Nat.le_of_lt HG1.out))
          have HP7 := hid ((HB7.out.block _ (lt_blk HVP.out) hpg).trans HVP.out)
          have ⟨z0, z1, z2, z3⟩ := cells4 HP7.out
          by_cases hqm : q < m
          · rcases RK.out.low BW.out (Nat.le_refl _) with h0 | ⟨b1, o1, e0, hb1, hc1⟩
            · have := HM.out; omega
            subst e0
            have hin : q < ks.length := by rw [← HM.out]; exact hqm
            have p0 := hc1 q hin
            have hmem : ks.getD q 0 ∈ ks := by rw [List.getD_eq_getElem?_getD, List.getElem?_eq_getElem hin]; exact List.getElem_mem hin
            have hx := HKD.out _ hmem
            obtain ⟨x, hxe⟩ : ∃ x : Nat, ks.getD q 0 = x := ⟨(ks.getD q 0).toNat, by omega⟩
            have hmt := mem_take_succ hin
            rw [hxe] at p0 hx
            have hxl : x < L := by omega
            have ⟨c1, f1⟩ := HM7.out.cell hxl
            have HM8 := hid ((HM7.out.set hxl sv).congr (m' := fun z => if (z : Int) ∈ ks.take (q + 1) then sv else scN T sc 0 k z) (fun j _ => by
              simp only [hmt, hxe]
              by_cases e : j = x
              · rw [if_pos e, if_pos (.inr (by omega))]
              · rw [if_neg e]
                by_cases e2 : (j : Int) ∈ ks.take q
                · rw [if_pos e2, if_pos (.inl e2)]
                · rw [if_neg e2, if_neg (fun h => h.elim e2 (fun h => e (by omega)))]))
            have HT8 := hid (HB7.out.trans (But.setc gm wr x (.int .i64 sv)))
            have g1 : (q : Int) < (m : Int) := by omega
            have g2 : (0 : Int) ≤ (q : Int) := by omega
            have g5 : (x : Int) < (L : Int) := by omega
            have g6 : (0 : Int) ≤ (x : Int) := by omega
            have HK1 := hid (show q + 1 ≤ m by omega)
            clear hc1 hin hmem hx hxe hmt hb1
            go_wp2_with fail
            refine ⟨⟨q + 1, HK1.out, by go_num, HT8, HM8⟩, ?_⟩
            have h3 := HK1.out
            simp [intOf]
            omega
          · obtain rfl : q = m := by omega
            have HM9 := hid (HM7.out.congr (m' := scN T sc 0 (k + 1)) (fun j _ => by rw [HSC.out, HSCB.out, HM.out, List.take_length]))
            have HT9 := hid (HTV.out.trans HB7.out)
            have HK2 := hid (show k + 1 ≤ L by omega)
            go_wp2_with fail
            refine ⟨⟨k + 1, (p : Int) - 1, HK2.out, hid (by have := HZ.out; omega), by go_num, HT9, HM9⟩, ?_⟩
            simp [intOf]
      · rw [hsel] at HS2
        have HSCB := hid (show scpO kd sv = 3 by unfold scpO; rw [hsel]; rfl)
        clear hsel
        go_wp2_with (go_at_call 30; refine (HS2.out _).mono ?_; rintro e w1 ⟨rfl, hww⟩; have hw2 := hww.symm; clear hww; subst hw2)
        clear z0 z1 z2 z3 c5 f5
        go_loopw [9] (fun j wr2 => ∃ q : Nat, q ≤ m ∧ j = .int .i64 (q : Int) ∧ Hid (But gm V wr2) ∧ Hid (InO wr2 gm gm L (fun z => if (z : Int) ∈ ks.take q then 3 else scN T sc 0 k z))) (fun j _ => m - (intOf j).toNat)
        case atStart => exact ⟨0, Nat.zero_le _, rfl, hid (But.refl _ _), hid (HMV.out.congr (fun j _ => by simp))⟩
        case round =>
          obtain ⟨q, hq, rfl, HB7, HM7⟩ := hrel
          have BW := hid (but_below HBV.out HB7.out (Nat.le_of_lt HG1.out))
          have HP7 := hid ((HB7.out.block _ (lt_blk HVP.out) hpg).trans HVP.out)
          have ⟨z0, z1, z2, z3⟩ := cells4 HP7.out
          by_cases hqm : q < m
          · rcases RK.out.low BW.out (Nat.le_refl _) with h0 | ⟨b1, o1, e0, hb1, hc1⟩
            · have := HM.out; omega
            subst e0
            have hin : q < ks.length := by rw [← HM.out]; exact hqm
            have p0 := hc1 q hin
            have hmem : ks.getD q 0 ∈ ks := by rw [List.getD_eq_getElem?_getD, List.getElem?_eq_getElem hin]; exact List.getElem_mem hin
            have hx := HKD.out _ hmem
            obtain ⟨x, hxe⟩ : ∃ x : Nat, ks.getD q 0 = x := ⟨(ks.getD q 0).toNat, by omega⟩
            have hmt := mem_take_succ hin
            rw [hxe] at p0 hx
            have hxl : x < L := by omega
            have ⟨c1, f1⟩ := HM7.out.cell hxl
            have HM8 := hid ((HM7.out.set hxl 3).congr (m' := fun z => if (z : Int) ∈ ks.take (q + 1) then 3 else scN T sc 0 k z) (fun j _ => by
              simp only [hmt, hxe]
              by_cases e : j = x
              · rw [if_pos e, if_pos (.inr (by omega))]
              · rw [if_neg e]
                by_cases e2 : (j : Int) ∈ ks.take q
                · rw [if_pos e2, if_pos (.inl e2)]
                · rw [if_neg e2, if_neg (fun h => h.elim e2 (fun h => e (by omega)))]))
            have HT8 := hid (HB7.out.trans (But.setc gm wr x (.int .i64 3)))
            have g1 : (q : Int) < (m : Int) := by omega
            have g2 : (0 : Int) ≤ (q : Int) := by omega
            have g5 : (x : Int) < (L : Int) := by omega
            have g6 : (0 : Int) ≤ (x : Int) := by omega
            have HK1 := hid (show q + 1 ≤ m by omega)
            clear hc1 hin hmem hx hxe hmt hb1
            go_wp2_with fail
            refine ⟨⟨q + 1, HK1.out, by go_num, HT8, HM8⟩, ?_⟩
            have h3 := HK1.out
            simp [intOf]
            omega
          · obtain rfl : q = m := by omega
            have HM9 := hid (HM7.out.congr (m' := scN T sc 0 (k + 1)) (fun j _ => by rw [HSC.out, HSCB.out, HM.out, List.take_length]))
            have HT9 := hid (HTV.out.trans HB7.out)
            have HK2 := hid (show k + 1 ≤ L by omega)
            go_wp2_with fail
            refine ⟨⟨k + 1, (p : Int) - 1, HK2.out, hid (by have := HZ.out; omega), by go_num, HT9, HM9⟩, ?_⟩
            simp [intOf]
    · obtain rfl : k = L := by omega
      have hneg : ¬ ((0 : Int) ≤ z) := by have := HZ.out; omega
      have HF := hid HMK.out
      go_wp2_with fail
      go_ret
      refine ⟨gm, rfl, ⟨Nat.lt_of_lt_of_le HMK.out.lt.2 (Nat.le_refl _), fun j hj => ?_⟩, HB6.out⟩
      exact (HMK.out.cell hj).1
end Go.Proofs.YtiddnjjaidiohaaGreatDoor.L
namespace Go.Proofs.YtiddnjjaidiohaaGreatDoor.L
open Go.RowKit
set_option linter.unusedVariables false
/-- Each part but the last is somebody's kid. -/
theorem has_parent {T : List Pt} (h0 : Ok0 T) (h1 : 1 ≤ T.length) (hl : ¬ Lst T) {j : Nat} (hj : j + 1 < T.length) : ∃ i, j < i ∧ i < T.length ∧ (j : Int) ∈ (pt T i).kids := by
  have hin : (j : Int) ∈ fre T (j + 1) := by rw [fre]; simp
  have hout : (j : Int) ∉ fre T T.length := by
    rw [fre_lone h1 hl]
    intro h
    have : (j : Int) = ((T.length - 1 : Nat) : Int) := by simpa using h
    omega
  have key : ∀ d, j + 1 + d ≤ T.length → (j : Int) ∉ fre T (j + 1 + d) → ∃ i, j < i ∧ i < T.length ∧ (j : Int) ∈ (pt T i).kids := by
    intro d
    induction d with
    | zero => intro _ h; exact absurd hin h
    | succ d ih =>
      intro hd h
      by_cases hm : (j : Int) ∈ fre T (j + 1 + d)
      · refine ⟨j + 1 + d, by omega, by omega, ?_⟩
        have e : fre T (j + 1 + (d + 1)) = (fre T (j + 1 + d)).take ((fre T (j + 1 + d)).length - (pt T (j + 1 + d)).kids.length) ++ [((j + 1 + d : Nat) : Int)] := rfl
        rw [e, List.mem_append] at h
        rw [(h0 (j + 1 + d) (by omega)).kids]
        rw [← List.take_append_drop ((fre T (j + 1 + d)).length - (pt T (j + 1 + d)).kids.length) (fre T (j + 1 + d)), List.mem_append] at hm
        exact hm.resolve_left (fun h2 => h (.inl h2))
      · exact ih (by omega) hm
  have e : j + 1 + (T.length - (j + 1)) = T.length := by omega
  exact key (T.length - (j + 1)) (by omega) (by rw [e]; exact hout)
theorem scp_mem {T : List Pt} (h0 : Ok0 T) (h1 : 1 ≤ T.length) (hl : ¬ Lst T) {sc : Int} {sp : Nat → Int} (hs : Scp T sc sp) (hsc : sc = 2 ∨ sc = 3) : ∀ d j, j + d + 1 = T.length → (sp j = 2 ∨ sp j = 3) := by
  intro d
  induction d using Nat.strongRecOn with
  | _ d ih =>
    intro j hj
    by_cases hd : d = 0
    · have : j = T.length - 1 := by omega
      rw [this, hs.root]
      exact hsc
    · obtain ⟨i, h2, h3, h4⟩ := has_parent h0 h1 hl (j := j) (by omega)
      rw [hs.kid i h3 j h4]
      unfold scpO
      split
      · exact .inr rfl
      · exact ih (T.length - 1 - i) (by omega) i (by omega)
/-- What is known of the type of a part that keeps its rules. -/
theorem kt_of {T : List Pt} (hG : GdS T) (h0 : Ok0 T) {s : Int} (hs : s = 2 ∨ s = 3) {x : Nat} (hx : x < T.length) (hb : brF T s x = none) : KT T (tyF T x) x := by
  rw [tyF_is hG hx]
  unfold tyS
  have tab := (h0 x hx).tab
  refine ⟨fun h1 h2 => ?_, fun h => ?_, fun h => ?_, fun h => ?_⟩
  · show srO _ _ _ = 1
    unfold srO
    rw [if_neg (by omega), if_neg (by omega), if_neg (by omega), if_neg (by omega)]
  · have hk := kids_nil tab (by rw [h]; rfl)
    rw [h, hk]
    rfl
  · have hk := kids_nil tab (by rw [h]; rfl)
    rw [h, hk]
    rfl
  · show siO _ _ _ = 1 ∨ siO _ _ _ = 2 ∨ siO _ _ _ = 3
    have e : ∀ j, siO (pt T x).kind (pt T x).num j = (pt T x).num := fun j => by unfold siO; rw [if_neg (by omega), if_pos (by omega)]
    rw [e]
    have hk := asO_kn ((brF_as (by omega)).symm.trans hb)
    rw [h] at hk
    have h2 : (pt T x).num = 1 ∨ (pt T x).num = s := by simpa [knB] using hk
    rcases h2 with h2 | h2
    · exact .inl h2
    · rcases hs with rfl | rfl
      · exact .inr (.inl h2)
      · exact .inr (.inr h2)
/-- The types of the first parts. -/
def tyP (T : List Pt) (k : Nat) : List (Int × Int) := (List.range k).map (tyF T)
theorem tyP_len (T : List Pt) (k : Nat) : (tyP T k).length = k := by unfold tyP; simp
theorem tyP_get (T : List Pt) {k j : Nat} (h : j < k) : (tyP T k).getD j (0, 0) = tyF T j := by
  unfold tyP
  rw [List.getD_eq_getElem?_getD, List.getElem?_map, List.getElem?_range h]
  rfl
theorem tyP_succ (T : List Pt) (k : Nat) : tyP T (k + 1) = tyP T k ++ [tyF T k] := by
  unfold tyP
  rw [List.range_succ, List.map_append]
  rfl
theorem tof_of {w : World} {a : Option Addr} {T : List Pt} {k : Nat} {sc : Int} {sp : Nat → Int} {tv : Value} (hT : PL w a T) (hr : Res T 0 0) (hs : Scp T sc sp) (hsc : sc = 2 ∨ sc = 3) (hk : k < T.length) (hb : ∀ j, j < k → brF T (sp j) j = none) (hv : TyV w tv (tyP T k)) : Tof w a T k (sp k) tv (tyP T k) := by
  obtain ⟨h1, h2, h3, h4, _⟩ := res_ok hr
  have hG := gds_of h3 h2
  refine ⟨hT, hk, hG, (h3 k hk).tab, scp_mem h3 h1 h4 hs hsc (T.length - 1 - k) k (by omega), hv, tyP_len T k, fun x hx => ?_⟩
  rw [tyP_get T hx]
  exact kt_of hG h3 (scp_mem h3 h1 h4 hs hsc (T.length - 1 - x) x (by omega)) (by omega) (hb x hx)
theorem br_tyP {T : List Pt} (hG : GdS T) {k : Nat} (hk : k < T.length) (s : Int) : brO T (fun j => ((tyP T k).getD j (0, 0)).1) (fun j => ((tyP T k).getD j (0, 0)).2) k s = brF T s k :=
  brO_congr (hG.shp k hk) (fun x hx => by
    have := hG.kid k hk x hx
    have e := tyP_get T (k := k) (j := x.toNat) (by omega)
    exact ⟨by rw [e], by rw [e]⟩)
theorem ty_tyP {T : List Pt} (hG : GdS T) {k : Nat} (hk : k < T.length) : tyS T (fun j => (tyP T k).getD j (0, 0)) k = tyF T k := by
  rw [tyF_is hG hk]
  exact tyS_congr (fun x hx => by
    have := hG.kid k hk x hx
    exact tyP_get T (by omega))
end Go.Proofs.YtiddnjjaidiohaaGreatDoor.L
