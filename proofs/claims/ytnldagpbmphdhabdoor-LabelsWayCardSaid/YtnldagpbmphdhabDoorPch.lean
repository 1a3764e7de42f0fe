import Derived.Test.YtnldagpbmphdhabDoorPrm
import Derived.Test.YtnldagpbmphdhabDoorRt
namespace Go.Proofs.YtnldagpbmphdhabDoor.L
open Go.RowKit
set_option linter.unusedVariables false
set_option maxHeartbeats 4000000 in
set_option maxRecDepth 100000 in
theorem patch_ok (v v2 : Value) (a b : List Lb) (w : World) (hc : Came w v a) (h2 : ItemsD w v2 (df a b)) (ga : Good a) (gb : Good b) (oa : OkL a) (ob : OkL b) (hL : (df a b).length ≤ 64) :
    Calls Tryd.prog 19 #[v, v2] w fun e w' => ∃ v', e = .returned (.tuple #[v', .int .i64 0]) ∧ Came w' v' b ∧ Below w.heap.size w w' := by
  have HC := hid (check_any v a w hc.items ga)
  rw [check_ok oa] at HC
  go_enter Tryd.func19, Tryd.ntmps19
  go_wp2_with fail
  refine HC.out.mono ?_
  rintro e w1 ⟨rfl, hb⟩
  obtain ⟨a1, c1, rfl⟩ := came_slice hc
  have H2 := hid (h2.low hb)
  have HA := hid (hc.low hb)
  obtain ⟨a2, c2, rfl, -⟩ := h2
  have B1 := hid hb
  clear hb HC hc
  go_wp2_with fail
  have hS := df_says _ a b (Nat.le_refl _) oa.up ob.up
  have HG := hid (df_good oa ob)
  have HS := hid hS
  have ha64 : a.length ≤ 64 := by have := oa.len; omega
  have CD := hid (fun (W : World) (t : ByteArray) (d : Df) (hb : Below w1.heap.size w1 W) (ht : t.size ≤ maxLen) (hd : d ∈ df a b) (hr : Op.bytesLess t.toList d.k.toList = true) =>
    checkdiff_ok (.slice a1 a.length c1) a t d W (HA.out.items.low hb) ha64 ht (by have := key_size (HG.out d hd).1; unfold maxLen; omega) (by have := val_size (HG.out d hd).2.1; unfold maxLen; omega) (by have := val_size (HG.out d hd).2.2; unfold maxLen; omega) (HG.out d hd).1 (HG.out d hd).2.1 (HG.out d hd).2.2 hr (fine_of HS.out hd) (HS.out.old d hd))
  have HMem := hid (fun x => patch_mem oa.up ob.up x)
  have PT := hid (fun (W : World) (hb : Below w1.heap.size w1 W) => patched_any (.slice a1 a.length c1) (.slice a2 (df a b).length c2) a (df a b) W (HA.out.items.low hb) (H2.out.low hb) ha64 hL)
  have HP := hid (patched_perm oa.up ob.up)
  have H2' := H2
  generalize df a b = L at *
  clear hS
  obtain ⟨lenD, hlenD⟩ : ∃ n, n = L.length := ⟨_, rfl⟩
  have HLD := hid hlenD
  rw [← hlenD] at hL PT ⊢
  clear hlenD
  go_loopw [8, 23] (fun bv i wr => ∃ (j : Nat) (t : ByteArray), j ≤ lenD ∧ i = .int .i64 j ∧ bv = .string t ∧ Hid (t.size ≤ maxLen) ∧ Hid (Below w1.heap.size w1 wr) ∧ Hid (∀ d ∈ L.drop j, Op.bytesLess t.toList d.k.toList = true)) (fun _ i _ => lenD - (intOf i).toNat)
  case atStart => exact ⟨0, ByteArray.empty, Nat.zero_le _, rfl, rfl, hid (by unfold maxLen; decide), hid (Below.refl _ _), hid (fun d hd => key_full (HG.out d (by simpa using hd)).1)⟩
  case round =>
    obtain ⟨j, t, hj, rfl, rfl, HTS, HQ, HR⟩ := hrel
    by_cases hlt : j < lenD
    · obtain ⟨a2', c2', e2, h0 | ⟨b0, off, rfl, hbl, hc⟩⟩ := H2'.out
      · have := HLD.out
        omega
      simp only [Value.slice.injEq] at e2
      obtain ⟨rfl, _, rfl⟩ := e2
      have hjl : j < L.length := by rw [← HLD.out]; exact hlt
      obtain ⟨d0, d1, d2, d3, d4⟩ := hc j hjl
      rw [← HQ.out.cell (p := ⟨b0, off + j * 5, none⟩) hbl] at d0
      rw [← HQ.out.cell (p := ⟨b0, off + j * 5 + 1, none⟩) hbl] at d1
      rw [← HQ.out.cell (p := ⟨b0, off + j * 5 + 2, none⟩) hbl] at d2
      rw [← HQ.out.cell (p := ⟨b0, off + j * 5 + 3, none⟩) hbl] at d3
      rw [← HQ.out.cell (p := ⟨b0, off + j * 5 + 4, none⟩) hbl] at d4
      have hsz : b0 < wr.heap.size := Nat.lt_of_lt_of_le hbl HQ.out.size
      have hdm : L[j] ∈ L := List.getElem_mem _
      have hdr : Op.bytesLess t.toList L[j].k.toList = true := HR.out _ (by rw [List.drop_eq_getElem_cons hjl]; exact List.mem_cons_self ..)
      have HR2 := hid (show ∀ d ∈ L.drop (j + 1), Op.bytesLess L[j].k.toList d.k.toList = true from by
        have := HS.out.rise.drop (i := j)
        rw [List.drop_eq_getElem_cons hjl] at this
        exact (List.pairwise_cons.1 this).1)
      have HKS := hid (show L[j].k.size ≤ maxLen by have := key_size (HG.out _ hdm).1; unfold maxLen; omega)
      have g1 : (j : Int) < (lenD : Int) := by omega
      have g2 : (0 : Int) ≤ (j : Int) := by omega
      generalize L[j] = d at *
      have A0 := belowA wr (.cells #[.string d.k, .string d.o, .string d.n, .bool d.had, .bool d.has] 47)
      have F0 := five_new wr d 47
      have BA := HQ.out.trans (A0.mono HQ.out.size)
      have CDD := hid (CD.out _ t d BA HTS.out hdm hdr)
      have HBA := hid BA
      have HF0 := hid F0
      clear hc hdm hdr A0 F0 BA
      obtain ⟨dk, dO, dn, dh, ds⟩ := d
      simp only [dv] at CDD d0 d1 d2 d3 d4 HR2 HKS HBA
      go_wp2_with fail
      refine CDD.out.mono ?_
      rintro e w2 ⟨rfl, hb⟩
      obtain ⟨x0, -, -, -, -⟩ := HF0.out.low hb (by simp)
      have B2 := hid (HBA.out.trans (hb.mono HBA.out.size))
      clear hb CDD
      simp only at x0
      go_wp2_with fail
      exact ⟨⟨j + 1, dk, by omega, by go_num, rfl, HKS, B2, HR2⟩, by simp [intOf]; omega⟩
    · obtain rfl : j = lenD := by omega
      have PP := hid (PT.out wr HQ.out)
      go_wp2_with fail
      refine PP.out.mono ?_
      rintro e w3 ⟨v3, rfl, ho, hb⟩
      have B3 := hid (HQ.out.trans (hb.mono HQ.out.size))
      have C3 := hid (own_came ho)
      generalize kept L a ++ newly L = KN at *
      have hkl : KN.length ≤ 32 := by rw [HP.out.length_eq]; exact ob.len
      have GK := hid (show Good KN from gb.sub (Nat.le_of_eq HP.out.length_eq) fun x hx => HP.out.mem_iff.1 hx)
      have SO := hid (sorted_any v3 KN w3 C3.out GK.out)
      obtain ⟨a3, c3, rfl⟩ := came_slice C3.out
      have g3 : (KN.length : Int) ≤ 32 := by omega
      clear hb ho PP
      go_wp2_with fail
      refine SO.out.mono ?_
      rintro e w4 ⟨v4, l4, rfl, hc4, hs4, hb4⟩
      have B4 := hid (B1.out.trans ((B3.out.trans (hb4.mono B3.out.size)).mono B1.out.size))
      obtain rfl : l4 = b := up_unique (sorted_ok (l := b) ⟨hs4.1.trans HP.out, hs4.2⟩ (up_dist' ob.up)) ob.up fun x => (hs4.1.trans HP.out).mem_iff
      have C4 := hid hc4
      clear hc4 hs4 hb4
      go_wp2_with fail
      first | go_ret2 | go_ret
      exact ⟨v4, rfl, C4.out, B4.out⟩
end Go.Proofs.YtnldagpbmphdhabDoor.L
