import Derived.Test.YtfbagkajbnomoaaQ11
namespace Go.Proofs.Ytfbagkajbnomoaa.L
open Go.RowKit Rg Qu
set_option linter.unusedVariables false
set_option linter.unusedSimpArgs false
/-- Park: the code, the queue behind it. -/
def prkE (l : List Wt) (s : ByteArray) (now : Int) : Int := if ¬ fnd s l < l.length then 252 else if 0 ≤ now ∧ now ≤ 1099511627776 then 0 else 254
def prkL (l : List Wt) (s : ByteArray) (now : Int) : List Wt := if prkE l s now = 0 then prk l (fnd s l) now else l
theorem okq_prk {l : List Wt} {nx : Int} (h : Okq l nx) (s : ByteArray) (now : Int) : Okq (prkL l s now) nx := by
  unfold prkL
  by_cases e : prkE l s now = 0
  · rw [if_pos e]
    unfold prkE at e
    split at e
    · cases e
    · split at e
      · rename_i h1
        exact h.park _ _ h1.1 h1.2
      · cases e
  · rw [if_neg e]; exact h
theorem park_nil (w : World) (s : ByteArray) (now : Int) : Calls Try.prog 24 #[.pointer none, .string s, .int .i64 now] w fun e w' => e = .returned (.int .i64 1) ∧ w' = w := by
  go_enter Try.func24, Try.ntmps24
  go_wp2
  go_ret
  exact ⟨by first | rfl | simp, rfl⟩
/-- The row has changed in its place. -/
theorem qr_row {W W' : World} {B qb g cp n : Nat} {l l' : List Wt} {nx : Int} (h : Qm W B qb (.slice (some ⟨g, 0, none⟩) n cp) l nx) (hl : l'.length = n) (ho : W'.ownsRow B 63 6 (.slice (some ⟨g, 0, none⟩) l'.length cp) l'.length (rowX wtV l')) (hg : W.grownBy W' (some g)) : Qr W B qb (.slice (some ⟨g, 0, none⟩) n cp) l' nx W' := by
  rw [hl] at ho
  refine ⟨.slice (some ⟨g, 0, none⟩) n cp, ⟨box_grow h.row h.box (by decide) hg, by rw [hl]; exact ho, h.lo⟩, ⟨hg.os, hg.tape, hg.output, hg.size, fun j hj h1 h2 => hg.block j hj (fun e => h2 (by rw [e]; rfl))⟩, fun j hj => Or.inl hj⟩
theorem prk_len (l : List Wt) (k : Nat) (now : Int) : (prk l k now).length = l.length := by
  unfold prk
  split
  · rfl
  · rw [List.length_set]
set_option maxHeartbeats 4000000 in
set_option maxRecDepth 100000 in
theorem park_any {w : World} {B qb : Nat} {v : Value} {l : List Wt} {nx : Int} (h : Qm w B qb v l nx) (hok : Okq l nx) (s : ByteArray) (now : Int) (hB : B ≤ w.heap.size) :
    Calls Try.prog 24 #[.pointer (some ⟨qb, 0, none⟩), .string s, .int .i64 now] w fun e w' => e = .returned (.int .i64 (prkE l s now)) ∧ Qr w B qb v (prkL l s now) nx w' := by
  have HF := hid (find_any h hok.few s)
  have HQ := hid h
  have HOK := hid hok
  have HT := hid (istime_any now)
  have hlen := hok.few
  by_cases h1 : fnd s l < l.length
  · have hz := fndI_yes h1
    rw [hz] at HF
    obtain ⟨k, hk⟩ : ∃ k, k = fnd s l := ⟨_, rfl⟩
    rw [← hk] at HF
    have hkl : k < l.length := by rw [hk]; exact h1
    obtain ⟨_, a, c, rfl, hr⟩ := own_w h.row
    obtain ⟨g, off, rfl, hgb, hcs⟩ := cell_w hr hkl
    clear hcs
    have hoff : off = 0 := by
      rcases h.row.2 with ⟨e, _⟩ | ⟨g', cap', cur, e, _⟩
      · cases e
      · injection e with e _ _
        injection e with e
        injection e with _ e _
    subst hoff
    by_cases h2 : 0 ≤ now ∧ now ≤ 1099511627776
    · have HE := hid (show prkE l s now = 0 from by unfold prkE; rw [if_neg (by simpa using h1), if_pos h2])
      have HL := hid (show prkL l s now = prk l k now from by unfold prkL; rw [HE.out, if_pos rfl, hk])
      rw [show decide (0 ≤ now ∧ now ≤ 1099511627776) = true by simpa using h2] at HT
      have HTR := hid (HOK.out.tr _ (List.getElem_mem hkl))
      have HKL := hid hkl
      obtain ⟨n, hn⟩ : ∃ n, n = l.length := ⟨_, rfl⟩
      have HN := hid hn
      rw [← hn] at hkl HQ hlen ⊢
      have H2 := hid h2
      have g1 : ¬ (k : Int) < 0 := by omega
      have g2 : (0 : Int) ≤ (k : Int) := by omega
      have g3 : (k : Int) < (n : Int) := by omega
      clear h hr hgb hn hk hz h1 h2
      go_enter Try.func24, Try.ntmps24
      go_wp2_with fail
      refine HF.out.mono ?_
      rintro e w2 ⟨rfl, hb2⟩
      have HQ2 := hid (HQ.out.low hb2)
      have HB2 := hid hb2
      have y0 : w2.cell? ⟨qb, 0, none⟩ = some (.slice (some ⟨g, 0, none⟩) n c) := cell_of_row w2 _ 0 _ _ _ HQ2.out.box
      have HP := hid (parkp_any (w := w2) (B := B) (g := g) (cp := c) (l := l) (by have := HQ2.out.row; rw [HN.out] at this; exact this) HKL.out now H2.out.1 H2.out.2 HTR.out)
      clear hb2 HF
      go_wp2_with fail
      refine (HT.out _).mono ?_
      rintro e w3 ⟨rfl, rfl⟩
      go_wp2_with fail
      refine HP.out.mono ?_
      rintro e w4 ⟨rfl, o4, g4⟩
      have HQR := hid (qr_row HQ2.out (by rw [prk_len, HN.out]) o4 g4)
      clear o4 g4 HP
      go_wp2_with fail
      go_ret
      exact ⟨by rw [HE.out]; rfl, by rw [HL.out]; exact Qr.pre HB2.out HQR.out⟩
    · have HE := hid (show prkE l s now = 254 from by unfold prkE; rw [if_neg (by simpa using h1), if_neg h2])
      have HL := hid (show prkL l s now = l from by unfold prkL; rw [HE.out, if_neg (by decide)])
      rw [show decide (0 ≤ now ∧ now ≤ 1099511627776) = false by simpa using h2] at HT
      have g1 : ¬ (k : Int) < 0 := by omega
      clear h hr hgb hk hz h1 h2 hkl
      go_enter Try.func24, Try.ntmps24
      go_wp2_with fail
      refine HF.out.mono ?_
      rintro e w2 ⟨rfl, hb2⟩
      have HB2 := hid hb2
      clear hb2 HF
      go_wp2_with fail
      refine (HT.out _).mono ?_
      rintro e w3 ⟨rfl, rfl⟩
      go_wp2_with fail
      go_ret
      exact ⟨by rw [HE.out]; rfl, by rw [HL.out]; exact HQ.out.qr HB2.out⟩
  · have HE := hid (show prkE l s now = 252 from by unfold prkE; rw [if_pos h1])
    have HL := hid (show prkL l s now = l from by unfold prkL; rw [HE.out, if_neg (by decide)])
    rw [fndI_no h1] at HF
    clear h h1
    go_enter Try.func24, Try.ntmps24
    go_wp2_with fail
    refine HF.out.mono ?_
    rintro e w2 ⟨rfl, hb2⟩
    have HB2 := hid hb2
    clear hb2 HF
    go_wp2_with fail
    go_ret
    exact ⟨by rw [HE.out]; rfl, by rw [HL.out]; exact HQ.out.qr HB2.out⟩
theorem wake_nil (w : World) : Calls Try.prog 25 #[.pointer none] w fun e w' => e = .returned (.tuple #[]) ∧ w' = w := by
  go_enter Try.func25, Try.ntmps25
  go_wp2
  (try simp only [Exit.inBlock, Exit.then])
  refine bodyPost_ret (results_none rfl _ _ _) rfl ?_
  exact ⟨by first | rfl | simp, rfl⟩
/-- Woken up to a place. -/
def wkN (l : List Wt) (k : Nat) : List Wt := (wks (l.take k)) ++ l.drop k
theorem wkN_len (l : List Wt) (k : Nat) : (wkN l k).length = l.length := by
  unfold wkN wks
  rw [List.length_append, List.length_map, List.length_take, List.length_drop]
  omega
theorem wkN_at {l : List Wt} {k : Nat} (hk : k < l.length) : (wkN l k)[k]'(by rw [wkN_len]; exact hk) = l[k] := by
  unfold wkN wks
  have e : (List.map (fun x : Wt => { x with asl := false }) (l.take k)).length = k := by rw [List.length_map, List.length_take]; omega
  rw [List.getElem_append_right (by omega)]
  simp only [e, List.getElem_drop, Nat.sub_self, Nat.add_zero]
theorem wkN_set {l : List Wt} {k : Nat} (hk : k < l.length) : wkN l (k + 1) = (wkN l k).set k { l[k] with asl := false } := by
  unfold wkN wks
  have e : (List.map (fun x : Wt => { x with asl := false }) (l.take k)).length = k := by rw [List.length_map, List.length_take]; omega
  rw [List.set_append_right _ _ (by omega), e, Nat.sub_self, List.drop_eq_getElem_cons hk, List.set_cons_zero, List.take_succ_eq_append_getElem hk, List.map_append, List.append_assoc]
  rfl
theorem wkN_all (l : List Wt) {k : Nat} (hk : k = l.length) : wkN l k = wks l := by
  subst hk
  unfold wkN
  rw [List.take_length, List.drop_length, List.append_nil]
set_option maxHeartbeats 4000000 in
set_option maxRecDepth 100000 in
theorem wake_any {w : World} {B qb : Nat} {v : Value} {l : List Wt} {nx : Int} (h : Qm w B qb v l nx) (hl : l.length ≤ 2048) :
    Calls Try.prog 25 #[.pointer (some ⟨qb, 0, none⟩)] w fun e w' => e = .returned (.tuple #[]) ∧ Qr w B qb v (wks l) nx w' := by
  obtain ⟨_, a, c, rfl, hr⟩ := own_w h.row
  have HQ := hid h
  obtain ⟨n, hn⟩ : ∃ n, n = l.length := ⟨_, rfl⟩
  have HN := hid hn
  rw [← hn] at HQ hl ⊢
  have y0 : w.cell? ⟨qb, 0, none⟩ = some (.slice a n c) := cell_of_row w _ 0 _ _ _ HQ.out.box
  have hmax : n ≤ 9223372036854775807 := by omega
  clear h hr hn
  go_enter Try.func25, Try.ntmps25
  go_wp2_with fail
  clear y0
  go_loopw [2, 10] (fun _ s8 wr => ∃ k : Nat, k ≤ n ∧ s8 = .int .i64 (k : Int) ∧ Hid (Qm wr B qb (.slice a n c) (wkN l k) nx ∧ Qf w wr qb (.slice a n c))) (fun _ i _ => n - (intOf i).toNat)
  case atStart => exact ⟨0, Nat.zero_le _, rfl, hid ⟨by have e : wkN l 0 = l := by (unfold wkN wks; simp)
                                                        rw [e]; exact HQ.out, Qf.of _ _ (Below.refl _ _)⟩⟩
  case round =>
    obtain ⟨k, hk, rfl, HS⟩ := hrel
    by_cases hlt : k < n
    · have g1 : (k : Int) < (n : Int) := by omega
      have g2 : (0 : Int) ≤ (k : Int) := by omega
      have y1 : wr.cell? ⟨qb, 0, none⟩ = some (.slice a n c) := cell_of_row wr _ 0 _ _ _ HS.out.1.box
      have hkl : k < l.length := by rw [← HN.out]; exact hlt
      have hkw : k < (wkN l k).length := by rw [wkN_len]; exact hkl
      obtain ⟨_, a2, c2, e2, r2⟩ := own_w HS.out.1.row
      obtain ⟨g, off, ha, hgb, hcs⟩ := cell_w r2 hkw
      clear hcs
      injection e2 with e2 e2n e3
      subst e2 ha
      have hoff : off = 0 := by
        rcases HS.out.1.row.2 with ⟨e, _⟩ | ⟨g', cap', cur, e, _⟩
        · cases e
        · injection e with e _ _
          injection e with e
          injection e with _ e _
      subst hoff
      have hrow : wr.ownsRow B 63 6 (.slice (some ⟨g, 0, none⟩) (wkN l k).length c) (wkN l k).length (rowX wtV (wkN l k)) := by
        have := HS.out.1.row
        rw [e2n] at this
        exact this
      have c5 : wr.cell? ⟨g, k * 6 + 5, none⟩ = some (.bool (wkN l k)[k].asl) := row_cell hrow hkw (by decide)
      have fz : wr.frozen? ⟨g, k * 6 + 5, none⟩ = false := row_soft hrow _
      have HR := hid (row_setc hrow hkw (q := 5) (by decide) (.bool false) { l[k] with asl := false } (by rw [wkN_at hkl]; rfl) (wkN_set hkl))
      generalize (wkN l k)[k].asl = ob at c5
      clear e2n e3 r2 hgb hrow hkw
      go_wp2_with fail
      refine ⟨⟨k + 1, by omega, by go_num, hid ?_⟩, by simp [intOf]; omega⟩
      obtain ⟨o, gg⟩ := HR.out
      obtain ⟨m, f⟩ := HS.out
      obtain ⟨v2, m2, f2, b2⟩ := qr_row m (by rw [wkN_len, ← HN.out]) o gg
      rw [wkN_len, ← HN.out] at o
      refine ⟨⟨box_grow m.row m.box (by decide) gg, by rw [wkN_len, ← HN.out]; exact o, m.lo⟩, f.trans (fun k hk => Or.inl hk) f2⟩
    · have g1 : ¬ (k : Int) < (n : Int) := by omega
      have hkn : k = l.length := by rw [← HN.out]; omega
      go_wp2_with fail
      go_end0
      refine ⟨by first | rfl | simp, ?_⟩
      obtain ⟨m, f⟩ := HS.out
      rw [wkN_all l hkn] at m
      exact ⟨_, m, f, fun j hj => Or.inl hj⟩
end Go.Proofs.Ytfbagkajbnomoaa.L
