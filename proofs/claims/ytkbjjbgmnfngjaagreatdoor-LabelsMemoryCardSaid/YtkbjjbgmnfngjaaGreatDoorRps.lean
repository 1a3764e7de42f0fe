import Derived.Test.YtkbjjbgmnfngjaaGreatDoorRmk
import Derived.Test.YtkbjjbgmnfngjaaGreatDoorPrs
namespace Go.Proofs.YtkbjjbgmnfngjaaGreatDoor.L
open Go.RowKit
set_option linter.unusedVariables false
theorem it_no {x : ByteArray} (h : idx x 61 = -1) : itE x = 35 := by
  unfold itE
  rw [if_pos h]
theorem it_yes {x : ByteArray} {i : Nat} (h : idx x 61 = i) : itK x = x.extract 0 i ∧ itV x = x.extract (i + 1) x.size ∧ itE x = labE (itK x) (itV x) := by
  refine ⟨?_, ?_, ?_⟩
  · unfold itK; rw [h, if_neg (by omega)]; rfl
  · unfold itV; rw [h, if_neg (by omega)]; rfl
  · unfold itE; rw [h, if_neg (by omega)]
theorem pr_dist (xs : List ByteArray) (done : List Lb) (p : Nat) (hd : Dist done) (h : (pr xs done p).2.2 = 0) : Dist (pr xs done p).1 ∧ (pr xs done p).2 = (0, 0) := by
  induction xs generalizing done p with
  | nil => exact ⟨hd, rfl⟩
  | cons x xs ih =>
    unfold pr at h ⊢
    by_cases h1 : done.length = 32
    · rw [if_pos h1] at h; simp at h
    · rw [if_neg h1] at h ⊢
      by_cases h2 : itE x = 0
      · rw [if_pos h2] at h ⊢
        by_cases h3 : (getN done (itK x)).2 = true
        · rw [if_pos h3] at h; simp at h
        · rw [if_neg h3] at h ⊢
          refine ih _ _ ?_ h
          refine List.pairwise_append.2 ⟨hd, List.pairwise_singleton _ _, fun a ha b hb => ?_⟩
          rw [List.mem_singleton.1 hb]
          exact (get_no (by simpa using h3)).2 a ha
      · rw [if_neg h2] at h
        exact absurd h h2
theorem parse_dist {t : ByteArray} (h : (parseN t).2.2 = 0) : Dist (parseN t).1 ∧ (parseN t).2 = (0, 0) := by
  unfold parseN at h ⊢
  by_cases h1 : 8192 < t.size
  · rw [if_pos h1] at h; simp at h
  · rw [if_neg h1] at h ⊢
    by_cases h2 : t.size = 0
    · rw [if_pos h2]; exact ⟨List.Pairwise.nil, rfl⟩
    · rw [if_neg h2] at h ⊢
      exact pr_dist _ _ _ List.Pairwise.nil h
set_option maxHeartbeats 4000000 in
theorem rparse_long (t : ByteArray) (w : World) (hs : t.size ≤ maxLen) (h : 8192 < t.size) : Calls Tryz.prog 27 #[.string t] w fun e w' => e = .returned (.tuple #[.slice none 0 0, .int .i64 0, .int .i64 39]) ∧ w' = w := by
  unfold maxLen at hs
  have g : (8192 : Int) < (t.size : Int) := by omega
  go_enter Tryz.func27, Tryz.ntmps27
  go_wp2
  go_ret3
  exact ⟨rfl, rfl⟩
set_option maxHeartbeats 4000000 in
theorem rparse_none (t : ByteArray) (w : World) (h : t.size = 0) : Calls Tryz.prog 27 #[.string t] w fun e w' => e = .returned (.tuple #[.slice none 0 0, .int .i64 0, .int .i64 0]) ∧ w' = w := by
  have hE := empty_yes h
  have g : ¬ (8192 : Int) < (t.size : Int) := by omega
  go_enter Tryz.func27, Tryz.ntmps27
  go_wp2
  go_ret3
  exact ⟨rfl, rfl⟩
set_option maxHeartbeats 16000000 in
set_option maxRecDepth 100000 in
theorem rparse_some (t : ByteArray) (w : World) (h0 : t.size ≠ 0) (h : t.size ≤ 8192) : Calls Tryz.prog 27 #[.string t] w fun e w' => ∃ v' l', e = .returned (.tuple #[v', .int .i64 (parseN t).2.1, .int .i64 (parseN t).2.2]) ∧ Below w.heap.size w w' ∧ (((parseN t).2.2 ≠ 0 ∧ v' = .slice none 0 0) ∨ ((parseN t).2.2 = 0 ∧ Own w' w.heap.size v' l' ∧ l'.Perm (parseN t).1 ∧ Up l')) := by
  obtain ⟨i0, hi0, hz0, hz1, hz2⟩ := info_parts infoL
  have hE := empty_no h0
  have g : ¬ (8192 : Int) < (t.size : Int) := by omega
  have HD := hid (fun h => (parse_dist (t := t) h).1)
  have HR := hid (show parseN t = pr ((pieces t 44).drop 0) [] 0 by unfold parseN; rw [if_neg (by omega), if_neg h0]; rfl)
  have HS := hid (rcut_any t 44 w (by omega))
  rw [show (((44 : UInt8).toNat : Nat) : Int) = 44 from rfl] at HS
  have hpl := pieces_len t 44
  have hpc := pieces_count t 44
  have hne := pieces_ne t 44
  have HP := hid (show ∀ x ∈ pieces t 44, x.size ≤ 8192 from fun x hx => Nat.le_trans (piece_small t 44 x hx) h)
  generalize hps : pieces t 44 = ps at *
  generalize parseN t = R at *
  have HNE := hid hne
  obtain ⟨len, hlen⟩ : ∃ n, n = ps.length := ⟨_, rfl⟩
  have HLEN := hid hlen
  rw [← hlen] at hpl
  have hl : len ≤ 8193 := by omega
  clear hps hpl hpc hne
  go_enter Tryz.func27, Tryz.ntmps27
  go_wp2_with fail
  refine HS.out.mono ?_
  rintro e W1 ⟨v1, rfl, how, hb⟩
  obtain ⟨b1, cap1, rfl, hsz, hcell⟩ := strAt_own how HNE.out
  have HB := hid hb
  have HCELL := hid hcell
  rw [← hlen]
  clear hcell HS how hb hlen
  go_wp2_with fail
  go_loopw [6, 7, 8] (fun lv at_ i wr => ∃ (k p : Nat) (done : List Lb), k ≤ len ∧ at_ = .int .i64 p ∧ i = .int .i64 k ∧ Hid (done.length = k) ∧ k ≤ 32 ∧ p ≤ k * 8193 ∧ Hid (Below w.heap.size w wr) ∧ Hid (Below W1.heap.size W1 wr) ∧ Hid (Own wr W1.heap.size lv done) ∧ Hid (R = pr (ps.drop k) done p) ∧ Hid (∀ x ∈ done, x.1.size ≤ 8192 ∧ x.2.size ≤ 8192)) (fun _ _ i _ => len - (intOf i).toNat)
  case atStart => exact ⟨0, 0, [], Nat.zero_le _, rfl, rfl, hid rfl, by omega, by omega, HB, hid (Below.refl _ _), hid (World.ownsRow_nil _ _ _ _), HR, hid (fun x hx => by simp at hx)⟩
  case round =>
    obtain ⟨k, p, done, hk, rfl, rfl, DL, hk32, hp, HBr, HB1, OW, HK, DS⟩ := hrel
    by_cases hlt : k < len
    · have hkp : k < ps.length := by rw [← HLEN.out]; exact hlt
      have c0 := HCELL.out k hkp
      rw [← HB1.out.cell (p := ⟨b1, k, none⟩) hsz] at c0
      have hszr : b1 < wr.heap.size := Nat.lt_of_lt_of_le hsz HB1.out.size
      have hx8 := HP.out ps[k] (List.getElem_mem hkp)
      have C1 := hid (HCELL.out k hkp)
      have st := HK.out
      rw [List.drop_eq_getElem_cons hkp] at st
      generalize ps[k] = x at *
      obtain ⟨a, cap, rfl⟩ := own_slice OW.out
      simp only [pr] at st
      have dl := DL.out
      rw [dl] at OW st ⊢
      have CU := hid (rcut_any x 61 wr (by omega))
      rw [show (((61 : UInt8).toNat : Nat) : Int) = 61 from rfl] at CU
      have F3 := hid (fun s W v (ho : Own W W1.heap.size v done) => rfind_any v done s W (own_items ho) (by unfold maxLen; omega))
      rcases idx_cases x 61 with h1 | ⟨i, h1, hi⟩
      · rw [pieces_one h1] at CU
        rw [it_no h1] at st
        have F1 := hid (fun W => rkey_any x W (by unfold maxLen; omega))
        have F2 := hid (fun W => rvalue_any ByteArray.empty W (by unfold maxLen; decide))
        have G3 := hid (F3.out x)
        generalize findN done x = fN at *
        generalize keyB x = kB at *
        generalize valB ByteArray.empty = vB at *
        clear h1 F3
        by_cases h32 : k = 32
        · rw [if_pos h32] at st
          have g32 : (32 : Int) ≤ (k : Int) := by omega
          have HF := hid st
          clear st dl h32
          go_wp2_with fail
          refine CU.out.mono ?_
          rintro e W2 ⟨v2, rfl, how, hb⟩
          obtain ⟨b2, cap2, rfl, hbl2, hcell⟩ := strAt_own how (by simp)
          have k0 : W2.cell? ⟨b2, 0, none⟩ = some (.string x) := hcell 0 (by simp)
          have c2 := (hb.cell (p := ⟨b1, k, none⟩) hszr).trans c0
          have hsz2 := Nat.lt_of_lt_of_le hszr hb.size
          have B2 := hid (HBr.out.trans (hb.mono HBr.out.size))
          have D2 := hid (HB1.out.trans (hb.mono HB1.out.size))
          have O2 := hid (own_low (show Own wr W1.heap.size (.slice a k cap) done by rw [← DL.out]; rw [← DL.out] at OW; exact OW.out) hb)
          clear hcell how hb
          simp only [List.length_cons, List.length_nil]
          go_wp2_with fail
          refine (F1.out _).mono ?_
          rintro e W3 ⟨rfl, hb⟩
          have c3 := (hb.cell (p := ⟨b1, k, none⟩) hsz2).trans c2
          have hsz3 := Nat.lt_of_lt_of_le hsz2 hb.size
          have B3 := hid (B2.out.trans (hb.mono B2.out.size))
          have D3 := hid (D2.out.trans (hb.mono D2.out.size))
          have O3 := hid (own_low O2.out hb)
          have hws3 : W1.heap.size ≤ W3.heap.size := D3.out.size
          clear hb
          go_wp2_with fail
          refine (F2.out _).mono ?_
          rintro e W4 ⟨rfl, hww⟩; subst hww
          go_wp2_with fail
          refine (G3.out _ _ O3.out).mono ?_
          rintro e W4 ⟨rfl, hww⟩; subst hww
          go_wp2_with fail
          go_ret3
          exact ⟨_, [], by rw [HF.out]; rfl, B3.out, Or.inl ⟨by rw [HF.out]; simp, rfl⟩⟩
        · rw [if_neg h32] at st
          simp only [show ¬ ((35 : Int) = 0) by decide, if_false] at st
          have g32 : ¬ (32 : Int) ≤ (k : Int) := by omega
          have HF := hid st
          clear st dl h32
          go_wp2_with fail
          refine CU.out.mono ?_
          rintro e W2 ⟨v2, rfl, how, hb⟩
          obtain ⟨b2, cap2, rfl, hbl2, hcell⟩ := strAt_own how (by simp)
          have k0 : W2.cell? ⟨b2, 0, none⟩ = some (.string x) := hcell 0 (by simp)
          have c2 := (hb.cell (p := ⟨b1, k, none⟩) hszr).trans c0
          have hsz2 := Nat.lt_of_lt_of_le hszr hb.size
          have B2 := hid (HBr.out.trans (hb.mono HBr.out.size))
          have D2 := hid (HB1.out.trans (hb.mono HB1.out.size))
          have O2 := hid (own_low (show Own wr W1.heap.size (.slice a k cap) done by rw [← DL.out]; rw [← DL.out] at OW; exact OW.out) hb)
          clear hcell how hb
          simp only [List.length_cons, List.length_nil]
          go_wp2_with fail
          refine (F1.out _).mono ?_
          rintro e W3 ⟨rfl, hb⟩
          have c3 := (hb.cell (p := ⟨b1, k, none⟩) hsz2).trans c2
          have hsz3 := Nat.lt_of_lt_of_le hsz2 hb.size
          have B3 := hid (B2.out.trans (hb.mono B2.out.size))
          have D3 := hid (D2.out.trans (hb.mono D2.out.size))
          have O3 := hid (own_low O2.out hb)
          have hws3 : W1.heap.size ≤ W3.heap.size := D3.out.size
          clear hb
          go_wp2_with fail
          refine (F2.out _).mono ?_
          rintro e W4 ⟨rfl, hww⟩; subst hww
          go_wp2_with fail
          refine (G3.out _ _ O3.out).mono ?_
          rintro e W4 ⟨rfl, hww⟩; subst hww
          go_wp2_with fail
          go_ret3
          exact ⟨_, [], by rw [HF.out]; rfl, B3.out, Or.inl ⟨by rw [HF.out]; simp, rfl⟩⟩
      · rw [pieces_more h1] at CU
        obtain ⟨q1, q2, q3⟩ := it_yes h1
        rw [q3, q1, q2] at st
        have hxs : (x.extract 0 i).size = i := by rw [ext_size _ _ _ (by omega)]; omega
        have hys : (x.extract (i + 1) x.size).size ≤ 8192 := by rw [ext_size _ _ _ (Nat.le_refl _)]; omega
        obtain ⟨ns, hns⟩ : ∃ n, n = (pieces (x.extract (i + 1) x.size) 61).length := ⟨_, rfl⟩
        have hn1 : 1 ≤ ns := by rw [hns, pieces_len]; omega
        have hn2 : ns ≤ 8193 := by
          rw [hns, pieces_len]
          have := pieces_count (x.extract (i + 1) x.size) 61
          omega
        generalize pieces (x.extract (i + 1) x.size) 61 = rs at *
        have HY := hid (show x.extract (i + 1) x.size = x.extract (i + 1) x.size from rfl)
        generalize hkey : x.extract 0 i = key at *
        have hval : ∀ z, z = x.extract (i + 1) x.size → z = x.extract (i + 1) x.size := fun z h => h
        have F1 := hid (fun W => rkey_any key W (by unfold maxLen; omega))
        have F2 := hid (fun W => rvalue_any (x.extract (i + 1) x.size) W (by unfold maxLen; omega))
        have G3 := hid (F3.out key)
        have FC := hid (find_cases done key)
        clear h1 F3 q1 q2 q3 hkey hval HY
        unfold labE at st
        by_cases h32 : k = 32
        · rw [if_pos h32] at st
          have g32 : (32 : Int) ≤ (k : Int) := by omega
          generalize findN done key = fN at *
          generalize keyB key = kB at *
          generalize valB (x.extract (i + 1) x.size) = vB at *
          have HF := hid st
          clear st dl h32
          go_wp2_with fail
          refine CU.out.mono ?_
          rintro e W2 ⟨v2, rfl, how, hb⟩
          obtain ⟨b2, cap2, rfl, hbl2, hcell⟩ := strAt_own how (by simp)
          have k0 : W2.cell? ⟨b2, 0, none⟩ = some (.string key) := hcell 0 (by simp)
          have c2 := (hb.cell (p := ⟨b1, k, none⟩) hszr).trans c0
          have hsz2 := Nat.lt_of_lt_of_le hszr hb.size
          have B2 := hid (HBr.out.trans (hb.mono HBr.out.size))
          have D2 := hid (HB1.out.trans (hb.mono HB1.out.size))
          have O2 := hid (own_low (show Own wr W1.heap.size (.slice a k cap) done by rw [← DL.out]; rw [← DL.out] at OW; exact OW.out) hb)
          clear hcell how hb
          simp only [List.length_cons]
          rw [← hns]
          go_wp2_with fail
          refine (F1.out _).mono ?_
          rintro e W3 ⟨rfl, hb⟩
          have c3 := (hb.cell (p := ⟨b1, k, none⟩) hsz2).trans c2
          have hsz3 := Nat.lt_of_lt_of_le hsz2 hb.size
          have B3 := hid (B2.out.trans (hb.mono B2.out.size))
          have D3 := hid (D2.out.trans (hb.mono D2.out.size))
          have O3 := hid (own_low O2.out hb)
          have hws3 : W1.heap.size ≤ W3.heap.size := D3.out.size
          clear hb
          go_wp2_with fail
          refine (F2.out _).mono ?_
          rintro e W4 ⟨rfl, hww⟩; subst hww
          go_wp2_with fail
          refine (G3.out _ _ O3.out).mono ?_
          rintro e W4 ⟨rfl, hww⟩; subst hww
          go_wp2_with fail
          go_ret3
          exact ⟨_, [], by rw [HF.out]; rfl, B3.out, Or.inl ⟨by rw [HF.out]; simp, rfl⟩⟩
        · rw [if_neg h32] at st
          have g32 : ¬ (32 : Int) ≤ (k : Int) := by omega
          cases e1 : keyB key
          · rw [e1] at F1 st
            simp only [if_true, show ¬ ((31 : Int) = 0) by decide, if_false] at st
            generalize findN done key = fN at *
            generalize valB (x.extract (i + 1) x.size) = vB at *
            have HF := hid st
            clear st dl h32
            go_wp2_with fail
            refine CU.out.mono ?_
            rintro e W2 ⟨v2, rfl, how, hb⟩
            obtain ⟨b2, cap2, rfl, hbl2, hcell⟩ := strAt_own how (by simp)
            have k0 : W2.cell? ⟨b2, 0, none⟩ = some (.string key) := hcell 0 (by simp)
            have c2 := (hb.cell (p := ⟨b1, k, none⟩) hszr).trans c0
            have hsz2 := Nat.lt_of_lt_of_le hszr hb.size
            have B2 := hid (HBr.out.trans (hb.mono HBr.out.size))
            have D2 := hid (HB1.out.trans (hb.mono HB1.out.size))
            have O2 := hid (own_low (show Own wr W1.heap.size (.slice a k cap) done by rw [← DL.out]; rw [← DL.out] at OW; exact OW.out) hb)
            clear hcell how hb
            simp only [List.length_cons]
            rw [← hns]
            go_wp2_with fail
            refine (F1.out _).mono ?_
            rintro e W3 ⟨rfl, hb⟩
            have c3 := (hb.cell (p := ⟨b1, k, none⟩) hsz2).trans c2
            have hsz3 := Nat.lt_of_lt_of_le hsz2 hb.size
            have B3 := hid (B2.out.trans (hb.mono B2.out.size))
            have D3 := hid (D2.out.trans (hb.mono D2.out.size))
            have O3 := hid (own_low O2.out hb)
            have hws3 : W1.heap.size ≤ W3.heap.size := D3.out.size
            clear hb
            go_wp2_with fail
            refine (F2.out _).mono ?_
            rintro e W4 ⟨rfl, hww⟩; subst hww
            go_wp2_with fail
            refine (G3.out _ _ O3.out).mono ?_
            rintro e W4 ⟨rfl, hww⟩; subst hww
            go_wp2_with fail
            go_ret3
            exact ⟨_, [], by rw [HF.out]; rfl, B3.out, Or.inl ⟨by rw [HF.out]; simp, rfl⟩⟩
          · rw [e1] at F1 st
            cases e2 : valB (x.extract (i + 1) x.size)
            · rw [e2] at F2 st
              simp only [Bool.true_eq_false, if_true, if_false, show ¬ ((32 : Int) = 0) by decide] at st
              generalize findN done key = fN at *
              have HF := hid st
              clear st dl h32
              go_wp2_with fail
              refine CU.out.mono ?_
              rintro e W2 ⟨v2, rfl, how, hb⟩
              obtain ⟨b2, cap2, rfl, hbl2, hcell⟩ := strAt_own how (by simp)
              have k0 : W2.cell? ⟨b2, 0, none⟩ = some (.string key) := hcell 0 (by simp)
              have c2 := (hb.cell (p := ⟨b1, k, none⟩) hszr).trans c0
              have hsz2 := Nat.lt_of_lt_of_le hszr hb.size
              have B2 := hid (HBr.out.trans (hb.mono HBr.out.size))
              have D2 := hid (HB1.out.trans (hb.mono HB1.out.size))
              have O2 := hid (own_low (show Own wr W1.heap.size (.slice a k cap) done by rw [← DL.out]; rw [← DL.out] at OW; exact OW.out) hb)
              clear hcell how hb
              simp only [List.length_cons]
              rw [← hns]
              go_wp2_with fail
              refine (F1.out _).mono ?_
              rintro e W3 ⟨rfl, hb⟩
              have c3 := (hb.cell (p := ⟨b1, k, none⟩) hsz2).trans c2
              have hsz3 := Nat.lt_of_lt_of_le hsz2 hb.size
              have B3 := hid (B2.out.trans (hb.mono B2.out.size))
              have D3 := hid (D2.out.trans (hb.mono D2.out.size))
              have O3 := hid (own_low O2.out hb)
              have hws3 : W1.heap.size ≤ W3.heap.size := D3.out.size
              clear hb
              go_wp2_with fail
              refine (F2.out _).mono ?_
              rintro e W4 ⟨rfl, hww⟩; subst hww
              go_wp2_with fail
              refine (G3.out _ _ O3.out).mono ?_
              rintro e W4 ⟨rfl, hww⟩; subst hww
              go_wp2_with fail
              go_ret3
              exact ⟨_, [], by rw [HF.out]; rfl, B3.out, Or.inl ⟨by rw [HF.out]; simp, rfl⟩⟩
            · rw [e2] at F2 st
              simp only [Bool.true_eq_false, if_true, if_false] at st
              rcases FC.out with ⟨f1, f2, _⟩ | ⟨j, hj, f1, f2, _⟩
              · rw [f2] at st
                simp only [Bool.false_eq_true, if_false] at st
                rw [f1] at G3
                clear f1 f2
                have hws : W1.heap.size ≤ wr.heap.size := HB1.out.size
                have HF := hid st
                clear st dl h32
                go_wp2_with fail
                refine CU.out.mono ?_
                rintro e W2 ⟨v2, rfl, how, hb⟩
                obtain ⟨b2, cap2, rfl, hbl2, hcell⟩ := strAt_own how (by simp)
                have k0 : W2.cell? ⟨b2, 0, none⟩ = some (.string key) := hcell 0 (by simp)
                have c2 := (hb.cell (p := ⟨b1, k, none⟩) hszr).trans c0
                have hsz2 := Nat.lt_of_lt_of_le hszr hb.size
                have B2 := hid (HBr.out.trans (hb.mono HBr.out.size))
                have D2 := hid (HB1.out.trans (hb.mono HB1.out.size))
                have O2 := hid (own_low (show Own wr W1.heap.size (.slice a k cap) done by rw [← DL.out]; rw [← DL.out] at OW; exact OW.out) hb)
                clear hcell how hb
                simp only [List.length_cons]
                rw [← hns]
                go_wp2_with fail
                refine (F1.out _).mono ?_
                rintro e W3 ⟨rfl, hb⟩
                have c3 := (hb.cell (p := ⟨b1, k, none⟩) hsz2).trans c2
                have hsz3 := Nat.lt_of_lt_of_le hsz2 hb.size
                have B3 := hid (B2.out.trans (hb.mono B2.out.size))
                have D3 := hid (D2.out.trans (hb.mono D2.out.size))
                have O3 := hid (own_low O2.out hb)
                have hws3 : W1.heap.size ≤ W3.heap.size := D3.out.size
                clear hb
                go_wp2_with fail
                refine (F2.out _).mono ?_
                rintro e W4 ⟨rfl, hww⟩; subst hww
                go_wp2_with fail
                refine (G3.out _ _ O3.out).mono ?_
                rintro e W4 ⟨rfl, hww⟩; subst hww
                go_wp2_with (first
                  | (at_builtin; refine wpList_append_own _ rfl _ _ 22 rfl W1.heap.size 36 i0 (.agg #[.string ByteArray.empty, .string ByteArray.empty]) 2 32 Tryz.underlying22 hi0 hz0 hz1 hz2 rfl (by decide) _ _ _ rfl (World.ownsRow.alloc (show W4.ownsRow W1.heap.size 36 2 (.slice a k cap) k (cellsF done) from by have := O3.out; unfold Own at this; rw [DL.out] at this; exact this) _) ⟨W4.heap.size, 0, none⟩ 1 1 [.string key, .string (x.extract (i + 1) x.size)] rfl rfl (cell_two_at _ _ _ _ _ (by simp)) (fun x hx => by simp at hx; rcases hx with rfl | rfl <;> rfl) (by unfold maxLen; omega) (by omega) (by simp; omega) ?_; intro v' w4 hown' hgrow4 hnil4; clear hnil4; have D4 := hid (show Below W1.heap.size W1 w4 from (D3.out.alloc D3.out.size _).grown hgrow4 (by have := D3.out.size; simp; omega) (fun j hj => own_base O3.out j hj)); have O4 := hid hown'; have c4 : w4.cell? ⟨b1, k, none⟩ = some (.string x) := (D4.out.cell (p := ⟨b1, k, none⟩) hsz).trans C1.out; have hsz4 := Nat.lt_of_lt_of_le hsz D4.out.size; clear hown' hgrow4)
                  | go_in)
                have B4 : Below w.heap.size w w4 := HB.out.trans (D4.out.mono HB.out.size)
                refine ⟨⟨k + 1, p + x.size + 1, done ++ [(key, x.extract (i + 1) x.size)], by omega, by go_num, by go_num, hid (by simp [DL.out]), by omega, by omega, hid B4, D4, hid (own_snoc (x := (key, x.extract (i + 1) x.size)) (by rw [DL.out]; exact O4.out)), HF, hid ?_⟩, by simp [intOf]; omega⟩
                intro y hy
                rcases List.mem_append.1 hy with hy | hy
                · exact DS.out y hy
                · rw [List.mem_singleton.1 hy]
                  exact ⟨by show key.size ≤ 8192; omega, hys⟩
              · rw [f2] at st
                simp only [if_true] at st
                rw [f1] at G3
                have hj0 : (0 : Int) ≤ (j : Int) := by omega
                clear f1 f2
                have HF := hid st
                clear st dl h32
                go_wp2_with fail
                refine CU.out.mono ?_
                rintro e W2 ⟨v2, rfl, how, hb⟩
                obtain ⟨b2, cap2, rfl, hbl2, hcell⟩ := strAt_own how (by simp)
                have k0 : W2.cell? ⟨b2, 0, none⟩ = some (.string key) := hcell 0 (by simp)
                have c2 := (hb.cell (p := ⟨b1, k, none⟩) hszr).trans c0
                have hsz2 := Nat.lt_of_lt_of_le hszr hb.size
                have B2 := hid (HBr.out.trans (hb.mono HBr.out.size))
                have D2 := hid (HB1.out.trans (hb.mono HB1.out.size))
                have O2 := hid (own_low (show Own wr W1.heap.size (.slice a k cap) done by rw [← DL.out]; rw [← DL.out] at OW; exact OW.out) hb)
                clear hcell how hb
                simp only [List.length_cons]
                rw [← hns]
                go_wp2_with fail
                refine (F1.out _).mono ?_
                rintro e W3 ⟨rfl, hb⟩
                have c3 := (hb.cell (p := ⟨b1, k, none⟩) hsz2).trans c2
                have hsz3 := Nat.lt_of_lt_of_le hsz2 hb.size
                have B3 := hid (B2.out.trans (hb.mono B2.out.size))
                have D3 := hid (D2.out.trans (hb.mono D2.out.size))
                have O3 := hid (own_low O2.out hb)
                have hws3 : W1.heap.size ≤ W3.heap.size := D3.out.size
                clear hb
                go_wp2_with fail
                refine (F2.out _).mono ?_
                rintro e W4 ⟨rfl, hww⟩; subst hww
                go_wp2_with fail
                refine (G3.out _ _ O3.out).mono ?_
                rintro e W4 ⟨rfl, hww⟩; subst hww
                go_wp2_with fail
                go_ret3
                exact ⟨_, [], by rw [HF.out]; rfl, B3.out, Or.inl ⟨by rw [HF.out]; simp, rfl⟩⟩
    · obtain rfl : k = len := by omega
      have HF := hid (show R = (done, 0, 0) by rw [HK.out, HLEN.out, List.drop_length]; rfl)
      have HRI := hid (fun hd => rrise_any _ done wr (own_items OW.out) (by rw [DL.out]; omega) hd)
      have HDD := hid (show Dist done by have := HD.out (by rw [HF.out]); rw [HF.out] at this; exact this)
      go_wp2_with fail
      refine (HRI.out HDD.out).mono ?_
      rintro e w2 ⟨v', l', rfl, hit, hpm, hu, hb⟩
      have RR := hid (show Own w2 w.heap.size v' l' ∧ l'.Perm done ∧ Up l' ∧ Below w.heap.size w w2 from ⟨own_mono hit HBr.out.size, hpm, hu, HBr.out.trans (hb.mono HBr.out.size)⟩)
      clear hit hpm hu hb
      go_wp2_with fail
      go_ret3
      exact ⟨_, l', by rw [HF.out]; rfl, RR.out.2.2.2, Or.inr ⟨by rw [HF.out], RR.out.1, by rw [HF.out]; exact RR.out.2.1, RR.out.2.2.1⟩⟩
theorem rparse_any (t : ByteArray) (w : World) (hs : t.size ≤ maxLen) : Calls Tryz.prog 27 #[.string t] w fun e w' => ∃ v' l', e = .returned (.tuple #[v', .int .i64 (parseN t).2.1, .int .i64 (parseN t).2.2]) ∧ Below w.heap.size w w' ∧ (((parseN t).2.2 ≠ 0 ∧ v' = .slice none 0 0) ∨ ((parseN t).2.2 = 0 ∧ Own w' w.heap.size v' l' ∧ l'.Perm (parseN t).1 ∧ Up l')) := by
  by_cases h : 8192 < t.size
  · refine (rparse_long t w hs h).mono ?_
    rintro e w' ⟨rfl, rfl⟩
    have e : parseN t = ([], 0, 39) := by unfold parseN; rw [if_pos h]
    rw [e]
    exact ⟨_, [], rfl, Below.refl _ _, Or.inl ⟨by decide, rfl⟩⟩
  · by_cases h0 : t.size = 0
    · refine (rparse_none t w h0).mono ?_
      rintro e w' ⟨rfl, rfl⟩
      have e : parseN t = ([], 0, 0) := by unfold parseN; rw [if_neg h, if_pos h0]
      rw [e]
      exact ⟨_, [], rfl, Below.refl _ _, Or.inr ⟨rfl, own_nil _ _, List.Perm.refl _, List.Pairwise.nil⟩⟩
    · exact rparse_some t w h0 (by omega)
end Go.Proofs.YtkbjjbgmnfngjaaGreatDoor.L
