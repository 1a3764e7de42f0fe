import Derived.Test.YtdnoagebcolgbaaDoorIi
import Derived.Test.YtdnoagebcolgbaaDoorIb
import Derived.Test.YtdnoagebcolgbaaDoorHB
import Derived.Test.YtdnoagebcolgbaaDoorIc
namespace Go.Proofs.YtdnoagebcolgbaaDoor.L
open Go.RowKit Go.Shelf
set_option linter.unusedVariables false
/-- What the document's Text answers. -/
def TxD (T : List Pt) (s : ByteArray) (c i : Int) : Prop :=
  (∃ c' i' : Nat, c = c' ∧ i = i' ∧ Res T c' i' ∧ c' ≠ 0 ∧ s = ⟨#[]⟩) ∨ (Res T 0 0 ∧ Shrt T T.length ∧ c = 0 ∧ i = 0 ∧ s = S ((txs T T.length).getD (T.length - 1) [])) ∨ (Res T 0 0 ∧ ¬ Shrt T T.length ∧ s = ⟨#[]⟩ ∧ c = 131 ∧ i = -1)
set_option maxHeartbeats 8000000 in
set_option maxRecDepth 100000 in
theorem rtext_any (a : Option Addr) (T : List Pt) (cap : Nat) (w : World) (hT : PL w a T) (hG : GdT T) :
    Calls Tryd.prog 15 #[.agg #[.slice a T.length cap]] w fun e w' => ∃ s c i, e = .returned (.tuple #[.string s, .int .i64 c, .int .i64 i]) ∧ TxD T s c i ∧ Below w.heap.size w w' := by
  obtain ⟨L, hLe⟩ : ∃ L, L = T.length := ⟨_, rfl⟩
  have HB0 := hid (belowA w (.cells #[.slice a L cap] 24))
  have HX0 := hid (Boxed.new w 24 (.slice a L cap))
  have HT := hid hT
  have HL := hid hLe
  have HV := hid (fun W h => rvalid_any a T cap W h hG)
  rw [← hLe] at HV ⊢
  clear hT hLe hG
  go_enter Tryd.func15, Tryd.ntmps15
  go_upto_region 1 with (fail)
  have HTX := hid (HT.out.low HB0.out)
  have HS0 := hid (show (w.alloc (.cells #[.slice a L cap] 24)).heap.size = w.heap.size + 1 by simp)
  generalize hXe : w.alloc (.cells #[.slice a L cap] 24) = X at *
  clear hXe
  have xt := HX0.out.cell
  go_upto_region 2 with (go_at_call 8; refine (HV.out _ HTX.out).mono ?_; rintro e w1 ⟨c, i, rfl, hr, l1⟩; have L1 := hid l1; have HRS := hid hr; clear l1 hr)
  clear xt
  by_cases hc : c = 0
  · subst hc
    have hi0 : i = 0 := HRS.out.ok.2.2.2
    subst hi0
    rw [show ((0 : Nat) : Int) = 0 from rfl]
    have hL : L ≤ 1000 := by rw [HL.out]; exact HRS.out.ok.2.1
    have h1 : 1 ≤ L := by rw [HL.out]; exact HRS.out.ok.1
    have HOK := hid HRS.out.ok.2.2.1
    have MK := fun W => make_txt L hL W
    have HB1 := hid (show Below w.heap.size w w1 from bch HB0.out L1.out)
    have xt := (boxed_low HX0.out L1.out).cell
    have HX1 := hid (boxed_low HX0.out L1.out)
    have HW1 := hid (show w.heap.size < w1.heap.size by have := L1.out.size; have h2 := HS0.out; omega)
    have OV := hid (owns_made w1 L w1.heap.size hL (Nat.le_refl _))
    have BV := hid (belowA w1 (.cells (madeCells #[.string ⟨#[]⟩] L) 9))
    go_upto_region 5 with (fail)
    generalize hVe : w1.alloc (.cells (madeCells #[.string ⟨#[]⟩] L) 9) = V at *
    clear hVe MK xt
    obtain ⟨g, hg⟩ : ∃ g, g = w1.heap.size := ⟨_, rfl⟩
    rw [← hg] at OV BV HW1 ⊢
    have HG := hid hg
    clear hg
    go_wp2_with fail
    go_loopw [8] (fun i wr => ∃ k : Nat, k ≤ L ∧ i = .int .i64 k ∧ Hid (Below g w1 wr) ∧ Hid (OwnS wr g (.slice (some ⟨g, 0, none⟩) L L) (kx (txs T L) k)) ∧ Hid (Shrt T k)) (fun i _ => L - (intOf i).toNat)
    case atStart => exact ⟨0, Nat.zero_le _, rfl, BV, hid (by rw [kx_zero, txs_len]; exact OV.out), hid (shrt_zero T)⟩
    case round =>
      obtain ⟨k, hk, rfl, HB, OW, HSH⟩ := hrel
      have HBw1 := hid (show Below w1.heap.size w1 wr by rw [← HG.out]; exact HB.out)
      have HBW := hid (show Below w.heap.size w wr from bch HB1.out HBw1.out)
      have HKLN := hid (show (kx (txs T L) k).length = L by rw [kx_len _ _ (by rw [txs_len]; exact hk), txs_len])
      have xt := (boxed_low HX1.out HBw1.out).cell
      by_cases hlt : k < L
      · have HTW := hid (HT.out.low HBW.out)
        rcases HTW.out with h0 | ⟨b2, o2, rfl, hb2, hc2⟩
        · have := HL.out; omega
        obtain ⟨ka, kc, q0, q1, q2, q3, rk⟩ := hc2 k (by rw [← HL.out]; exact hlt)
        have HOA := hid (HOK.out k (by rw [← HL.out]; exact hlt))
        obtain ⟨r, hr⟩ : ∃ r, r = ptx T (txs T k) (pt T k) := ⟨_, rfl⟩
        have HR := hid hr
        have HRX := hid (show (txs T L)[k]? = some r by rw [hr]; exact txs_get T k hlt)
        have HML := hid (show (pt T k).kids.length ≤ 1000 by have h2 := fre_len T k; have h3 := HOA.out.many; omega)
        have HGW := hid (owns_lt OW.out).2
        have HRD := hid (show ∀ W, Below wr.heap.size wr W → Calls Tryd.prog 26 #[.agg #[.slice (some ⟨b2, o2, none⟩) L cap], .agg #[.int .i64 (pt T k).kind, .string (pt T k).text, .int .i64 (pt T k).num, .slice ka (pt T k).kids.length kc], .slice (some ⟨g, 0, none⟩) L L] W fun e w' => e = .returned (.string (S r)) ∧ Below W.heap.size W w' by
          intro W hW
          have ht := HOA.out.tab
          unfold tabD at ht
          have := rtx_any (some ⟨b2, o2, none⟩) T cap (pt T k) ka kc g L k (txs T k) W (HTW.out.low hW) (rk.low hW (Nat.le_refl _)) (fun x hx => HOA.out.lt hx) (by rw [← HL.out]; omega) (by rw [← HL.out]; exact hL) HML.out (by omega) hL (by
            intro j hj
            have hc := (owns_cell (owns_low OW.out hW) HKLN.out.symm j (by omega)).1
            rw [kx_get T hk hj] at hc
            exact hc) (Nat.lt_of_lt_of_le HGW.out hW.size) (fun j hj => HSH.out j hj) (fun x hx => by
              unfold ksL at hx
              obtain ⟨y, _, rfl⟩ := List.mem_map.1 hx
              exact kid_len HSH.out _ _) ht.1 ht.2.1 ht.2.2.1 ht.2.2.2.1
          rw [← HL.out, ← hr] at this
          exact this)
        generalize (pt T k).kind = kd at *
        generalize (pt T k).text = tx at *
        generalize (pt T k).num = nu at *
        generalize (pt T k).kids.length = mm at *
        have g1 : (k : Int) < (L : Int) := by omega
        have g2 : (0 : Int) ≤ (k : Int) := by omega
        have HXR := hid (boxed_low HX1.out HBw1.out)
        have HB2 := hid hb2
        have HWR := hid (show w.heap.size < wr.heap.size by have := HW1.out; have := HGW.out; omega)
        have hb2w : b2 < w.heap.size := by
          rcases HT.out with h0 | ⟨b2', o2', e2, hb2w, _⟩
          · have := HL.out; omega
          · cases e2; exact hb2w
        have hgw : g ≠ w.heap.size := by have := HW1.out; omega
        have hgb : g ≠ b2 := by have := HW1.out; omega
        clear hc2 rk hr hb2w
        go_upto_region 8 with (fail)
        go_region_held3 (fun Z => Z.cell? ⟨w.heap.size, 0, none⟩ = some (.slice (some ⟨b2, o2, none⟩) L cap) ∧ Z.cell? ⟨b2, o2 + k * 4, none⟩ = some (.int .i64 kd) ∧ Z.cell? ⟨b2, o2 + k * 4 + 1, none⟩ = some (.string tx) ∧ Z.cell? ⟨b2, o2 + k * 4 + 2, none⟩ = some (.int .i64 nu) ∧ Z.cell? ⟨b2, o2 + k * 4 + 3, none⟩ = some (.slice ka mm kc)) (first | exact ⟨xt, q0, q1, q2, q3⟩ | (refine ⟨?_, ?_, ?_, ?_, ?_⟩ <;> assumption) | go_keep)
          (first
            | (go_at_call 26; refine (HRD.out _ (by first | exact (Below.refl _ _).drew | exact Below.refl _ _)).mono ?_; rintro e w2 ⟨rfl, l2⟩; have M2 := hid (show Below wr.heap.size wr w2 from by first | exact undrew l2 | exact l2); clear l2; have at' := (M2.out.cell (p := ⟨w.heap.size, 0, none⟩) HWR.out).trans xt; have a0 := (M2.out.cell (p := ⟨b2, o2 + k * 4, none⟩) HB2.out).trans q0; have a1 := (M2.out.cell (p := ⟨b2, o2 + k * 4 + 1, none⟩) HB2.out).trans q1; have a2 := (M2.out.cell (p := ⟨b2, o2 + k * 4 + 2, none⟩) HB2.out).trans q2; have a3 := (M2.out.cell (p := ⟨b2, o2 + k * 4 + 3, none⟩) HB2.out).trans q3; have O5 := hid (owns_low OW.out M2.out); have c5 := (owns_cell O5.out HKLN.out.symm k hlt).1; have f5 := (owns_cell O5.out HKLN.out.symm k hlt).2))
        have S5 := owns_set O5.out HKLN.out.symm k r
        have HGW2 := (owns_lt O5.out).2
        have HB6 := hid (show Below g w1 (w2.setCell ⟨g, k, none⟩ (.string (S r))) from ((show Below g w1 w2 by rw [HG.out]; exact bch HBw1.out M2.out).grown S5.2 (Nat.le_of_lt HGW2) (fun j e => by cases e; exact Nat.le_refl _)))
        have O6 := hid S5.1
        rw [kx_set (txs T L) k (by rw [txs_len]; exact hlt) r HRX.out] at O6
        clear at' a0 a1 a2 a3 c5 f5 S5 HGW2 q0 q1 q2 q3 xt
        rename_i hHeld
        clear hHeld
        generalize w2.setCell ⟨g, k, none⟩ (.string (S r)) = W6 at *
        have HKL6 := hid (show (kx (txs T L) (k + 1)).length = L by rw [kx_len _ _ (by rw [txs_len]; omega), txs_len])
        have c6 := (owns_cell O6.out HKL6.out.symm k hlt).1
        rw [kx_get T (show k + 1 ≤ L by omega) (show k < k + 1 by omega), getD_txs T (show k < k + 1 by omega), ← HR.out] at c6
        have HRS2 := hid (S_size r)
        generalize S r = R at *
        have HJ1 := hid (show k + 1 ≤ L by omega)
        by_cases hlong : 4096 < R.size
        · go_wp2_with fail
          refine bodyPost_ret (v := .tuple #[.string ⟨#[]⟩, .int .i64 131, .int .i64 (-1)]) (by simp [results, Tryd.results15]) rfl ⟨_, _, _, rfl, Or.inr (Or.inr ⟨HRS.out, fun hS => ?_, rfl, rfl, rfl⟩), bch HB1.out (by rw [← HG.out]; exact HB6.out)⟩
          have h5 := hS k (by rw [← HL.out]; exact hlt)
          rw [getD_txs T (by rw [← HL.out]; exact hlt), ← HR.out, ← HRS2.out] at h5
          omega
        · go_wp2_with fail
          refine ⟨⟨k + 1, HJ1.out, by go_num, HB6, O6, hid (HSH.out.more (by rw [← HR.out, ← HRS2.out]; omega))⟩, ?_⟩
          have h3 := HJ1.out
          simp [intOf]
          omega
      · obtain rfl : k = L := by omega
        obtain ⟨k1, hk1⟩ : ∃ k1, k1 = k - 1 := ⟨_, rfl⟩
        have c0 := (owns_cell OW.out HKLN.out.symm k1 (by omega)).1
        rw [kx_get T (Nat.le_refl k) (show k1 < k by omega)] at c0
        have e1 : ((k : Int) - 1) = (k1 : Int) := by omega
        have g1 : (k1 : Int) < (k : Int) := by omega
        have g2 : (0 : Int) ≤ (k1 : Int) := by omega
        have HSK := hid (show Shrt T k from HSH.out)
        have HRE := hid (show S ((txs T k).getD k1 []) = S ((txs T T.length).getD (T.length - 1) []) by rw [hk1, ← HL.out])
        generalize S ((txs T k).getD k1 []) = R at *
        clear hk1
        go_wp2_with fail
        exact bodyPost_ret (v := .tuple #[.string R, .int .i64 0, .int .i64 0]) (by simp [results, Tryd.results15]) rfl ⟨_, _, _, rfl, Or.inr (Or.inl ⟨HRS.out, by rw [← HL.out]; exact HSK.out, rfl, rfl, HRE.out⟩), HBW.out⟩
  · have hc' : ((c : Int) == 0) = false := by simp; omega
    have hc2 : ¬ (c : Int) = 0 := by omega
    go_wp2_with fail
    exact bodyPost_ret (v := .tuple #[.string ⟨#[]⟩, .int .i64 (c : Int), .int .i64 (i : Int)]) (by simp [results, Tryd.results15]) rfl ⟨_, _, _, rfl, Or.inl ⟨c, i, rfl, rfl, HRS.out, hc, rfl⟩, bch HB0.out L1.out⟩
end Go.Proofs.YtdnoagebcolgbaaDoor.L
