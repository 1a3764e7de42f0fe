import Derived.Test.YtnlohjcjboelgaaAdd
namespace Go.Proofs.Ytnlohjcjboelgaa.L
open Go.RowKit
set_option linter.unusedVariables false
theorem mrg_len (n : Nat) (l c : List It) : (mrg n l c).length ≤ l.length + c.length := by
  induction n generalizing l c with
  | zero => simp [mrg]
  | succ n ih =>
    cases l with
    | nil => cases c with
      | nil => simp [mrg]
      | cons y c => have := ih [] c; simp [mrg] at this ⊢; omega
    | cons x l => cases c with
      | nil => have := ih l []; simp [mrg] at this ⊢; omega
      | cons y c =>
        have h1 := ih l (y :: c)
        have h2 := ih (x :: l) c
        have h3 := ih l c
        simp only [mrg]
        split
        · simp at h1 ⊢; omega
        · split
          · simp at h2 ⊢; omega
          · simp at h3 ⊢; omega
/-- What Sub leaves behind right lists. -/
def SubPost (M : List Pr) (w w' : World) (v : Value) (s : ByteArray) (er : Int) : Prop :=
  (∃ K, underAt M M.length 0 = some K ∧ v = .slice none 0 0 ∧ s = pn M K ∧ er = 29) ∨ (underAt M M.length 0 = none ∧ w'.ownsRow w.heap.size 41 2 v (diffs M).length (cellsF (diffs M)) ∧ s = ByteArray.empty ∧ er = 0)
set_option maxHeartbeats 8000000 in
set_option maxRecDepth 100000 in
theorem sub_few (v1 v2 : Value) (l c : List It) (w : World) (s1 : Sl w v1 l) (s2 : Sl w v2 c) (g1 : Good l) (g2 : Good c) (ok : chkAll (two l c) 2 0 = 0) (h : (mrg 40 l c).length ≤ 32) (hb : ∀ j, j < (mrg 40 l c).length → 0 ≤ px (mrg 40 l c) j ∧ px (mrg 40 l c) j ≤ 9223372036854775807 ∧ 0 ≤ py (mrg 40 l c) j ∧ py (mrg 40 l c) j ≤ 9223372036854775807) :
    Calls Try.prog 15 #[v1, v2] w fun e w' => ∃ v s er, e = .returned (.tuple #[v, .string s, .int .i64 er]) ∧ Below w.heap.size w w' ∧ SubPost (mrg 40 l c) w w' v s er := by
  obtain ⟨i0, hi, hz0, hz1, hz2⟩ := info_parts info31
  have HB := hid hb
  clear hb
  have CA := hid (check_two v1 v2 l c w s1.items s2.items g1 g2)
  rw [ok] at CA
  have PA := hid (fun W (hB : Below w.heap.size w W) => paired_any v1 v2 l c W (s1.low hB) (s2.low hB) (check_len (two_ok ok).1) (check_len (two_ok ok).2))
  obtain ⟨a1, c1, rfl, x1⟩ := s1
  obtain ⟨a2, c2, rfl, x2⟩ := s2
  obtain ⟨M, hM⟩ : ∃ M, M = mrg 40 l c := ⟨_, rfl⟩
  rw [← hM] at PA h HB ⊢
  clear hM x1 x2
  generalize l.length = n1 at *
  generalize c.length = n2 at *
  clear ok g1 g2
  go_enter Try.func15, Try.ntmps15
  go_wp2_with fail
  refine CA.out.mono ?_
  rintro e w1 ⟨rfl, hb1⟩
  have HB1 := hid hb1
  clear hb1 CA
  go_wp2_with fail
  refine (PA.out _ HB1.out).mono ?_
  rintro e w2 ⟨pv, rfl, hown, hb2⟩
  have HB2 := hid (HB1.out.trans (hb2.mono HB1.out.size))
  obtain ⟨ap, cp, rfl, hp⟩ := pairs_cells hown
  have HP := hid hp
  clear hown hb2 PA hp
  obtain ⟨len, hlen⟩ : ∃ n, n = M.length := ⟨_, rfl⟩
  have HLEN := hid hlen
  rw [← hlen] at h HP HB ⊢
  clear hlen
  go_wp2_with fail
  go_loopw [8, 22] (fun o i wr => ∃ k : Nat, k ≤ len ∧ i = .int .i64 k ∧ Hid (Below w2.heap.size w2 wr) ∧ Hid (wr.ownsRow w2.heap.size 41 2 o (diffs (M.take k)).length (cellsF (diffs (M.take k)))) ∧ Hid (underAt M len 0 = underAt M (len - k) k)) (fun _ i _ => len - (intOf i).toNat)
  case atStart => exact ⟨0, Nat.zero_le _, rfl, hid (Below.refl _ _), hid (World.ownsRow_nil _ _ _ _), hid rfl⟩
  case round =>
    obtain ⟨k, hk, rfl, BE, OW, OV⟩ := hrel
    have BW := hid (HB2.out.trans (BE.out.mono HB2.out.size))
    by_cases hlt : k < len
    · rcases HP.out with h0 | ⟨b, rfl, hbl, hc⟩
      · omega
      obtain ⟨c0, c1', c2'⟩ := hc k hlt
      obtain ⟨x0, x1, y0, y1⟩ := HB.out k hlt
      rw [← BE.out.cell (p := ⟨b, k * 3, none⟩) hbl] at c0
      rw [← BE.out.cell (p := ⟨b, k * 3 + 1, none⟩) hbl] at c1'
      rw [← BE.out.cell (p := ⟨b, k * 3 + 2, none⟩) hbl] at c2'
      have hsz : b < wr.heap.size := Nat.lt_of_lt_of_le hbl BE.out.size
      have hkl : k < M.length := by rw [← HLEN.out]; exact hlt
      have st := OV.out.trans (underAt_step M len k hlt)
      have sk : (diffs (M.take k)).length ≤ k := by
        unfold diffs
        rw [List.length_map]
        exact Nat.le_trans (List.length_filter_le _ _) (by rw [List.length_take]; omega)
      have HTY := hid (diffs_yes M k hkl)
      have HTN := hid (diffs_no M k hkl)
      have hw2 : w2.heap.size ≤ wr.heap.size := BE.out.size
      by_cases ov : px M k < py M k
      · rw [if_pos ov] at st
        have HF := hid st
        generalize hpn : pn M k = nmk at *
        have HPN := hid hpn
        clear hpn
        generalize px M k = x at *
        generalize py M k = y at *
        clear st hc sk
        go_wp2_with fail
        go_quiet (fail)
        go_wp2_with fail
        go_ret3
        refine ⟨_, _, _, rfl, below_drewN (BW.out.alloc BW.out.size _) _, Or.inl ⟨k, ?_, rfl, HPN.out.symm, rfl⟩⟩
        rw [← HLEN.out]
        exact HF.out
      · rw [if_neg ov] at st
        have HF := hid st
        by_cases gt : py M k < px M k
        · have HT := hid (HTY.out gt)
          generalize pn M k = nmk at *
          generalize px M k = x at *
          generalize py M k = y at *
          generalize diffs (M.take k) = S at *
          have hS : S.length ≤ 32 := by omega
          clear st hc sk HTY HTN
          go_wp2_with (first
            | (at_builtin; refine wpList_append_own _ rfl _ _ 24 rfl w2.heap.size 41 i0 (.agg #[.string ByteArray.empty, .int .i64 0]) 2 24 Try.underlying24 hi hz0 hz1 hz2 rfl (by decide) _ _ _ rfl ((OW.out.alloc _).alloc _) ⟨wr.heap.size + 1, 0, none⟩ 1 1 [.string nmk, .int .i64 (x - y)] rfl rfl (cell_two_at _ _ _ _ _ (by simp)) (fun x hx => by simp at hx; rcases hx with rfl | rfl <;> rfl) (by unfold maxLen; omega) (by omega) (by simp; omega) ?_; intro v' w3 hown' hgrow3 hnil3)
            | go_in)
          clear hnil3
          have BE3 : Below w2.heap.size w2 w3 := ((BE.out.alloc hw2 _).alloc (by simp; omega) _).grown hgrow3 (by simp; omega) (fun j hj => own_base OW.out j hj)
          exact ⟨⟨k + 1, by omega, by go_num, hid BE3, hid (by rw [HT.out]; exact ownF_snoc hown'), HF⟩, by simp [intOf]; omega⟩
        · have HT := hid (HTN.out gt)
          generalize pn M k = nmk at *
          generalize px M k = x at *
          generalize py M k = y at *
          clear st hc sk HTY HTN
          go_wp2_with fail
          exact ⟨⟨k + 1, by omega, by go_num, hid (BE.out.alloc hw2 _), hid (by rw [HT.out]; exact OW.out.alloc _), HF⟩, by simp [intOf]; omega⟩
    · obtain rfl : k = len := by omega
      have HF := hid (show underAt M k 0 = none by rw [OV.out, Nat.sub_self]; rfl)
      have HTK := hid (show M.take k = M by rw [HLEN.out, List.take_length])
      go_wp2_with fail
      go_ret3
      have o := OW.out
      rw [HTK.out] at o
      exact ⟨_, _, _, rfl, BW.out, Or.inr ⟨by rw [← HLEN.out]; exact HF.out, own_wider o HB2.out.size, rfl, rfl⟩⟩
end Go.Proofs.Ytnlohjcjboelgaa.L
