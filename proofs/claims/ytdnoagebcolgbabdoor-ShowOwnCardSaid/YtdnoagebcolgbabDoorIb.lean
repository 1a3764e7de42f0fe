import Derived.Test.YtdnoagebcolgbabDoorIa
import Derived.Test.YtdnoagebcolgbabDoorHE
namespace Go.Proofs.YtdnoagebcolgbabDoor.L
open Go.RowKit Go.Shelf
set_option linter.unusedVariables false
theorem txs_take (T : List Pt) (k : Nat) : ∀ {L : Nat}, k ≤ L → (txs T L).take k = txs T k
  | 0, h => by
    obtain rfl : k = 0 := by omega
    rfl
  | L + 1, h => by
    by_cases e : k = L + 1
    · subst e
      rw [List.take_of_length_le (by rw [txs_len]; omega)]
    · rw [txs, List.take_append_of_le_length (by rw [txs_len]; omega)]
      exact txs_take T k (by omega)
theorem kx_get (T : List Pt) {L k j : Nat} (hk : k ≤ L) (hj : j < k) : (kx (txs T L) k).getD j [] = (txs T k).getD j [] := by
  unfold kx
  rw [txs_take T k hk, List.getD_eq_getElem?_getD, List.getElem?_append_left (by rw [txs_len]; exact hj), ← List.getD_eq_getElem?_getD]
set_option maxHeartbeats 8000000 in
set_option maxRecDepth 100000 in
theorem textof_any (a : Option Addr) (T : List Pt) (cap : Nat) (w : World) (hT : PL w a T) (h1 : 1 ≤ T.length) (hL : T.length ≤ 1000) (hok : Ok0 T) (hv : TabW w) :
    Calls Tryd.prog 13 #[.slice a T.length cap] w fun e w' => Below w.heap.size w w' ∧ ((Shrt T T.length ∧ e = .returned (.tuple #[.string (S ((txs T T.length).getD (T.length - 1) [])), .bool true])) ∨ (¬ Shrt T T.length ∧ e = .returned (.tuple #[.string ⟨#[]⟩, .bool false]))) := by
  obtain ⟨L, hLe⟩ : ∃ L, L = T.length := ⟨_, rfl⟩
  have HT := hid hT
  have HL := hid hLe
  have HOK := hid hok
  have HV := hid hv
  rw [← hLe] at h1 hL ⊢
  clear hT hLe hok hv
  have MK := fun W => make_txt L hL W
  have OV := hid (owns_made w L w.heap.size hL (Nat.le_refl _))
  have BV := hid (belowA w (.cells (madeCells #[.string ⟨#[]⟩] L) 9))
  go_enter Tryd.func13, Tryd.ntmps13
  go_upto_region 2 with (fail)
  generalize hVe : w.alloc (.cells (madeCells #[.string ⟨#[]⟩] L) 9) = V at *
  clear hVe MK
  obtain ⟨g, hg⟩ : ∃ g, g = w.heap.size := ⟨_, rfl⟩
  rw [← hg] at OV BV ⊢
  have HG := hid hg
  clear hg
  go_wp2_with fail
  go_loopw [12] (fun i wr => ∃ k : Nat, k ≤ L ∧ i = .int .i64 k ∧ Hid (Below g w wr) ∧ Hid (OwnS wr g (.slice (some ⟨g, 0, none⟩) L L) (kx (txs T L) k)) ∧ Hid (Shrt T k)) (fun i _ => L - (intOf i).toNat)
  case atStart => exact ⟨0, Nat.zero_le _, rfl, BV, hid (by rw [kx_zero, txs_len]; exact OV.out), hid (shrt_zero T)⟩
  case round =>
    obtain ⟨k, hk, rfl, HB, OW, HSH⟩ := hrel
    have HBW := hid (show Below w.heap.size w wr by rw [← HG.out]; exact HB.out)
    have HKLN := hid (show (kx (txs T L) k).length = L by rw [kx_len _ _ (by rw [txs_len]; exact hk), txs_len])
    by_cases hlt : k < L
    · have r2 := HT.out.low HBW.out
      rcases r2 with h0 | ⟨b2, o2, rfl, hb2, hc2⟩
      · have := HL.out; omega
      obtain ⟨ka, kc, q0, q1, q2, q3, rk⟩ := hc2 k (by rw [← HL.out]; exact hlt)
      have HOA := hid (HOK.out k (by rw [← HL.out]; exact hlt))
      obtain ⟨r, hr⟩ : ∃ r, r = ptx T (txs T k) (pt T k) := ⟨_, rfl⟩
      have HR := hid hr
      have HRX := hid (show (txs T L)[k]? = some r by rw [hr]; exact txs_get T k hlt)
      have HPT := hid (show r = txK (pt T k).kind (quoteL (pt T k).text.data.toList) (pt T k).num (ksL T (txs T k) (pt T k)) from hr)
      have HKN := hid (show (ksL T (txs T k) (pt T k)).length = (pt T k).kids.length by unfold ksL; rw [List.length_map])
      have HML := hid (show (pt T k).kids.length ≤ 1000 by have h2 := fre_len T k; have h3 := HOA.out.many; omega)
      have HPE := hid (show pt T k = ⟨(pt T k).kind, (pt T k).text, (pt T k).num, (pt T k).kids⟩ from rfl)
      generalize hkd : (pt T k).kind = kd at *
      generalize htx : (pt T k).text = tx at *
      generalize hnu : (pt T k).num = nu at *
      generalize hks : (pt T k).kids = ks at *
      obtain ⟨mm, hmm⟩ : ∃ mm, mm = ks.length := ⟨_, rfl⟩
      rw [← hmm] at q3
      have HKS := hid (show ∀ x, x ∈ ks → 0 ≤ x ∧ x < (k : Int) from fun x hx => HOA.out.lt (by rw [hks]; exact hx))
      have HTAB := hid HOA.out.tab
      have g1 : (k : Int) < (L : Int) := by omega
      have g2 : (0 : Int) ≤ (k : Int) := by omega
      have HB2 := hid (belowA wr (.cells #[.int .i64 kd, .string tx, .int .i64 nu, .slice ka mm kc] 33))
      have HP2 := hid (heap_alloc_new wr (.cells #[.int .i64 kd, .string tx, .int .i64 nu, .slice ka mm kc] 33))
      have HMM := hid hmm
      have HRK := hid rk
      have HKDE := hid hkd
      have HTXE := hid htx
      have HNUE := hid hnu
      have HKSE := hid hks
      clear hc2 rk hmm hkd htx hnu hks hr
      go_upto_region 5 with (fail)
      have HGW := hid (owns_lt OW.out).2
      have OY := hid (owns_low OW.out HB2.out)
      have HBY := hid (show Below w.heap.size w _ from bch HBW.out HB2.out)
      clear q0 q1 q2 q3
      have HRY := hid (HRK.out.low HB2.out (Nat.le_refl _))
      generalize wr.alloc (.cells #[.int .i64 kd, .string tx, .int .i64 nu, .slice ka mm kc] 33) = Y at *
      generalize hPe : wr.heap.size = P at *
      clear hPe
      have HPL := hid (lt_blk HP2.out)
      have HTY := hid (HT.out.low HBY.out)
      have HGY := hid (owns_lt OY.out).2
      have HKD := hid (show ∀ W, Below Y.heap.size Y W → Calls Tryd.prog 23 #[.slice (some ⟨b2, o2, none⟩) L cap, .slice (some ⟨g, 0, none⟩) L L, .agg #[.int .i64 kd, .string tx, .int .i64 nu, .slice ka mm kc]] W fun e w' => ∃ gk, e = .returned (.slice (some ⟨gk, 0, none⟩) mm mm) ∧ Kd w' gk (ksL T (txs T k) (pt T k)) ∧ Below W.heap.size W w' by
        intro W hW
        have := kid_any (some ⟨b2, o2, none⟩) T cap (pt T k) ka kc g L k (txs T k) W (HTY.out.low hW) (by rw [HKSE.out]; exact HRY.out.low hW (Nat.le_refl _)) (by rw [HKSE.out]; exact HKS.out) (by rw [← HL.out]; omega) (by rw [← HL.out]; exact hL) (by rw [HKSE.out]; exact HML.out) (by omega) hL (by
          intro j hj
          have hc := (owns_cell (owns_low OY.out hW) HKLN.out.symm j (by omega)).1
          rw [kx_get T hk hj] at hc
          exact hc) (Nat.lt_of_lt_of_le HGY.out hW.size) (fun j hj => HSH.out j hj)
        rw [HKDE.out, HTXE.out, HNUE.out, HKSE.out, ← HMM.out, ← HL.out] at this
        exact this)
      have HCT := hid (show ∀ W gk, Kd W gk (ksL T (txs T k) (pt T k)) → TabW W → Calls Tryd.prog 22 #[.agg #[.int .i64 kd, .string tx, .int .i64 nu, .slice ka mm kc], .slice (some ⟨gk, 0, none⟩) mm mm] W fun e w' => e = .returned (.string (S r)) ∧ Below W.heap.size W w' by
        intro W gk hK hV
        have ht := HTAB.out
        unfold tabD at ht
        rw [HKDE.out, HTXE.out, HNUE.out, HKSE.out] at ht
        have := ctext_any kd tx nu (.slice ka mm kc) gk mm (ksL T (txs T k) (pt T k)) W (by rw [HKN.out, HMM.out]) hK (fun x hx => by
          unfold ksL at hx
          obtain ⟨y, _, rfl⟩ := List.mem_map.1 hx
          exact kid_len HSH.out _ _) (by rw [HKN.out]; exact HML.out) hV (by rw [HKN.out]; exact ht.1) ht.2.1 ht.2.2.1 ht.2.2.2.1
        rw [← HPT.out] at this
        exact this)
      have HVY := hid (HV.out.low HBY.out)
      generalize ksL T (txs T k) (pt T k) = KS at *
      have ⟨q0, q1, q2, q3⟩ := cells4 HP2.out
      have hgP : g ≠ P := by have := HGW.out; omega
      clear HB2 HRY HTAB HKS
      go_region_held3 (fun Z => Z.cell? ⟨P, 0, none⟩ = some (.int .i64 kd) ∧ Z.cell? ⟨P, 1, none⟩ = some (.string tx) ∧ Z.cell? ⟨P, 2, none⟩ = some (.int .i64 nu) ∧ Z.cell? ⟨P, 3, none⟩ = some (.slice ka mm kc)) (first | exact ⟨q0, q1, q2, q3⟩ | (refine ⟨?_, ?_, ?_, ?_⟩ <;> assumption) | go_keep)
        (first
          | (go_at_call 23; refine (HKD.out _ (by first | exact (Below.refl _ _).drew | exact Below.refl _ _)).mono ?_; rintro e w1 ⟨gk, rfl, hK, l1⟩; have M1 := hid (show Below Y.heap.size Y w1 from undrew l1); clear l1; have HKd := hid hK; clear hK; have a0 := (M1.out.cell (p := ⟨P, 0, none⟩) HPL.out).trans q0; have a1 := (M1.out.cell (p := ⟨P, 1, none⟩) HPL.out).trans q1; have a2 := (M1.out.cell (p := ⟨P, 2, none⟩) HPL.out).trans q2; have a3 := (M1.out.cell (p := ⟨P, 3, none⟩) HPL.out).trans q3)
          | (go_at_call 22; refine (HCT.out _ gk HKd.out (HVY.out.low M1.out)).mono ?_; rintro e w2 ⟨rfl, l2⟩; have M2 := hid (show Below Y.heap.size Y w2 from bch M1.out l2); clear l2; have a0 := (M2.out.cell (p := ⟨P, 0, none⟩) HPL.out).trans q0; have a1 := (M2.out.cell (p := ⟨P, 1, none⟩) HPL.out).trans q1; have a2 := (M2.out.cell (p := ⟨P, 2, none⟩) HPL.out).trans q2; have a3 := (M2.out.cell (p := ⟨P, 3, none⟩) HPL.out).trans q3; have O5 := hid (owns_low OY.out M2.out); have c5 := (owns_cell O5.out HKLN.out.symm k hlt).1; have f5 := (owns_cell O5.out HKLN.out.symm k hlt).2))
      have S5 := owns_set O5.out HKLN.out.symm k r
      have HGW2 := (owns_lt O5.out).2
      have HB6 := hid (show Below g w (w2.setCell ⟨g, k, none⟩ (.string (S r))) from ((show Below g w w2 by rw [HG.out]; exact bch HBY.out M2.out).grown S5.2 (Nat.le_of_lt HGW2) (fun j e => by cases e; exact Nat.le_refl _)))
      have O6 := hid S5.1
      rw [kx_set (txs T L) k (by rw [txs_len]; exact hlt) r HRX.out] at O6
      clear a0 a1 a2 a3 c5 f5 S5 HGW2 q0 q1 q2 q3 hgP
      rename_i hHeld
      clear hHeld
      generalize w2.setCell ⟨g, k, none⟩ (.string (S r)) = W6 at *
      have HKL6 := hid (show (kx (txs T L) (k + 1)).length = L by rw [kx_len _ _ (by rw [txs_len]; omega), txs_len])
      have c6 := (owns_cell O6.out HKL6.out.symm k hlt).1
      rw [kx_get T (show k + 1 ≤ L by omega) (show k < k + 1 by omega), getD_txs T (show k < k + 1 by omega), ← HR.out] at c6
      have HRS := hid (S_size r)
      generalize S r = R at *
      have HJ1 := hid (show k + 1 ≤ L by omega)
      by_cases hlong : 4096 < R.size
      · go_wp2_with fail
        refine bodyPost_ret (v := .tuple #[.string ⟨#[]⟩, .bool false]) (by simp [results, Tryd.results13]) rfl ⟨by rw [← HG.out]; exact HB6.out, Or.inr ⟨fun hS => ?_, rfl⟩⟩
        have h5 := hS k hlt
        rw [getD_txs T hlt, ← HR.out, ← HRS.out] at h5
        omega
      · go_wp2_with fail
        refine ⟨⟨k + 1, HJ1.out, by go_num, HB6, O6, hid (HSH.out.more (by rw [← HR.out, ← HRS.out]; omega))⟩, ?_⟩
        have h3 := HJ1.out
        simp [intOf]
        omega
    · obtain rfl : k = L := by omega
      obtain ⟨k1, hk1⟩ : ∃ k1, k1 = k - 1 := ⟨_, rfl⟩
      have c0 := (owns_cell OW.out HKLN.out.symm k1 (by omega)).1
      rw [kx_get T (Nat.le_refl k) (show k1 < k by omega)] at c0
      have e1 : ((k : Int) - 1) = (k1 : Int) := by omega
      have g1 : (k1 : Int) < (k : Int) := by omega
      have g2 : (0 : Int) ≤ (k1 : Int) := by omega
      have HSK := hid (show Shrt T k from HSH.out)
      have HRE := hid (show S ((txs T k).getD k1 []) = S ((txs T k).getD (k - 1) []) by rw [hk1])
      generalize S ((txs T k).getD k1 []) = R at *
      clear hk1
      go_wp2_with fail
      exact bodyPost_ret (v := .tuple #[.string R, .bool true]) (by simp [results, Tryd.results13]) rfl ⟨HBW.out, Or.inl ⟨HSK.out, by rw [HRE.out]⟩⟩
end Go.Proofs.YtdnoagebcolgbabDoor.L
