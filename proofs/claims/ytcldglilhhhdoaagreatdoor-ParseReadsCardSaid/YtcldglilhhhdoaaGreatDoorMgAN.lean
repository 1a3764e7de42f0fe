import Derived.Test.YtcldglilhhhdoaaGreatDoorPbK
import Derived.Recover
import Derived.Defers
import Derived.Laws.Pointers
import Derived.Test.YtcldglilhhhdoaaGreatDoorMgAG
namespace Go.Proofs.YtcldglilhhhdoaaGreatDoor.L
open Go.RowKit
set_option linter.unusedVariables false
set_option linter.unusedSimpArgs false
theorem own_int {W : World} {B : Nat} {o : Value} {l : List Int} (h : OwnI W B o l) {j : Nat} (hj : j < l.length) : ∃ g c, o = .slice (some ⟨g, 0, none⟩) l.length c ∧ W.cell? ⟨g, j, none⟩ = some (.int .i64 (l.getD j 0)) := by
  rcases h.2 with ⟨_, hn⟩ | ⟨g, cap, cur, e, _⟩
  · omega
  · refine ⟨g, cap, e, ?_⟩
    subst e
    rw [World.ownsRow.cellAt h j (by omega)]
    simp [hj]
theorem own_len {W : World} {B size n : Nat} {e : TypeId} {v : Value} {xs : List Value} (h : W.ownsRow B e size v n xs) : ∃ a c, v = .slice a n c := by
  rcases h.2 with ⟨e, n0⟩ | ⟨g, cap, cur, e, _⟩
  · exact ⟨none, 0, by rw [e, n0]⟩
  · exact ⟨_, _, e⟩
set_option maxHeartbeats 4000000 in
set_option maxRecDepth 100000 in
theorem whole_any {pb B : Nat} {Nb : Nat → Prop} {tv : Value} {T : List Tok} {W : World} {v o : Value} {ks : Nat → Value} (n : Nat) (hn : 4 * T.length + 3 < n) (h : PM pb B Nb tv T W ⟨0, 0, [], []⟩ v o ks) :
    Calls Tryz.prog 25 #[.pointer (some ⟨pb, 0, none⟩)] W fun e W' => Po pb B Nb tv T (fun _ => .tuple #[]) (wholeP T n) W v o e W' := by
  have HP := hid h
  have HP0 := hid h
  have HF0 := hid (Fp.refl pb W v o)
  have HC := hid (gr_any (pb := pb) (B := B) (tv := tv) (T := T) n .expr 0 (by simp only [lvl]; omega))
  have HI := hid (show Inv ⟨0, 0, [], []⟩ from ⟨Nat.le_refl _, rfl⟩)
  clear h hn
  have rf0 := run_f0
  obtain ⟨R, hR⟩ : ∃ R, R = wholeP T n := ⟨_, rfl⟩
  have HR := hid hR.symm
  rw [← hR]
  clear hR
  unfold wholeP at HR
  go_enter Tryz.func25, Tryz.ntmps25
  go_wp2_with fail
  refine (HC.out Nb _ _ _ _ _ HP0.out HI.out (Nat.le_refl _)).mono ?_
  intro e W1 hpo
  cases hq : gr T n .expr ⟨0, 0, [], []⟩ with
  | error q =>
    obtain ⟨c, x⟩ := q
    rw [hq] at hpo HR
    rw [bnd_bad] at HR
    obtain ⟨N, rfl, hf, hb⟩ := po_bad hpo
    have HFL := hid hf
    have HBD := hid ((HP.out.below HF0.out).trans hb)
    clear hf hb hpo hq
    go_wp2_with fail
    rw [← HR.out]
    exact ⟨rfl, N, rfl, HFL.out, HBD.out⟩
  | ok q =>
    obtain ⟨k1, s1⟩ := q
    have HQ1 := hid hq
    rw [hq] at hpo HR
    rw [bnd_ok] at HR
    obtain ⟨rfl, v1, o1, ks1, hp, hf⟩ := po_ok hpo
    have HP1 := hid hp
    have HF1 := hid (HF0.out.trans hf)
    clear hp hf hpo hq
    have HI1 := hid (HI.out.gn (gn_gr n .expr _ _ _ HQ1.out))
    obtain ⟨t, ht⟩ : ∃ t, t = tk T s1.nx := ⟨_, rfl⟩
    have HTK := hid (token_any HP1.out)
    rw [← ht] at HR HTK
    unfold L.tv at HTK
    clear ht
    go_wp2_with fail
    refine HTK.out.mono ?_
    rintro e W2 ⟨rfl, l⟩
    have HP2 := hid (HP1.out.low l)
    have HF2 := hid (HF1.out.below l)
    clear l HTK
    by_cases h0 : t.kind = 0
    · rw [if_pos h0] at HR
      have e0 : ((t.kind : Int) != 0) = false := by simp [h0]
      clear h0
      obtain ⟨va, vc, hvf⟩ := own_len HP2.out.parts.row
      obtain ⟨L, hL⟩ : ∃ L, L = s1.ps.length := ⟨_, rfl⟩
      have HL := hid hL
      rw [← hL] at hvf HR
      clear hL
      have hLm : L ≤ maxLen := by have h1 := (HI1.out.l HP2.out).1; have h2 := HL.out; unfold maxLen; omega
      have c3 : W2.cell? ⟨pb, 3, none⟩ = some v1 := cell_of_row _ _ 3 _ _ _ HP2.out.box
      rw [hvf] at c3
      clear hvf
      by_cases h1 : 1000 < L
      · rw [if_pos h1] at HR
        have d1 : (1000 : Int) < (L : Int) := by omega
        obtain ⟨og, oc, hof, hoc⟩ := own_int HP2.out.offs (j := 1000) (by have h2 := HL.out; have h3 := HI1.out.2; omega)
        obtain ⟨M, hM⟩ : ∃ M, M = s1.os.length := ⟨_, rfl⟩
        rw [← hM] at hof
        have hM1 : (1000 : Int) < (M : Int) := by have h2 := HL.out; have h3 := HI1.out.2; omega
        clear hM h1
        have c4 : W2.cell? ⟨pb, 4, none⟩ = some o1 := cell_of_row _ _ 4 _ _ _ HP2.out.box
        rw [hof] at c4
        clear hof
        go_wp2_with fail
        refine (giveup_any 123 _ _).mono ?_
        rintro e V ⟨N, rfl, hf, hb⟩
        have HFL := hid hf
        have HBD := hid (HP.out.below (HF2.out.below hb))
        clear hf hb
        go_wp2_with fail
        rw [← HR.out]
        exact ⟨rfl, N, rfl, HFL.out, HBD.out⟩
      · rw [if_neg h1] at HR
        have d1 : ¬ (1000 : Int) < (L : Int) := by omega
        clear h1
        go_wp2_with fail
        rw [← HR.out]
        exact ⟨rfl, .tuple #[], by first | rfl | kernel_rfl, rfl, v1, o1, ks1, HP2.out, HF2.out⟩
    · rw [if_neg h0] at HR
      have e0 : ((t.kind : Int) != 0) = true := by simp; omega
      clear h0
      go_wp2_with fail
      refine (refuse_any HP2.out).mono ?_
      rintro e V ⟨N, rfl, hf, hb⟩
      have HFL := hid hf
      have HBD := hid (HP.out.below (HF2.out.below hb))
      clear hf hb
      go_wp2_with fail
      rw [← HR.out]
      exact ⟨rfl, N, rfl, HFL.out, HBD.out⟩
end Go.Proofs.YtcldglilhhhdoaaGreatDoor.L
namespace Go.Proofs.YtcldglilhhhdoaaGreatDoor.L
open Go.RowKit
set_option linter.unusedVariables false
set_option linter.unusedSimpArgs false
theorem run_as (x : Value) (w : World) : (Instr.typeAssert (.iface 62 x) 20 62 false).run Tryz.prog w = .ok x w := by
  simp [Instr.typeAssert, run_underlying Tryz.underlying62, go_sem, Result.andThen]
set_option maxHeartbeats 4000000 in
set_option maxRecDepth 100000 in
theorem catch_pan (q N : Nat) (older : List PanicEntry) (w : World) (x : Value) (hc : w.cell? ⟨q, 0, none⟩ = some x) (hz : w.frozen? ⟨q, 0, none⟩ = false) :
    CallsD Tryz.prog 24 #[.pointer (some ⟨q, 0, none⟩)] (.panicking ({ v := .iface 62 (.pointer (some ⟨N, 0, none⟩)), recovered := false } :: older)) w fun e u' w' =>
      e = .returned (.tuple #[]) ∧ u' = .panicking ({ v := .iface 62 (.pointer (some ⟨N, 0, none⟩)), recovered := true } :: older) ∧ w' = w.setCell ⟨q, 0, none⟩ (fv N) := by
  have hta := run_as
  refine callsD_of_wpS Tryz.func24 rfl fun c₀ cs hu => ?_
  apply wpS_seq
  apply wpS_region
  simp [wpOpsS, go_sem, recoverD, hu, Tryz.ntmps24, Exit.thenS]
  apply wpS_seq
  refine wpS_of_wp ?_
  go_wp2
  simp only [Exit.thenS]
  refine wpS_cond (t := true) (by simp [Act.eval, Array.replicate]) ?_
  simp only [if_true]
  refine wpS_of_wp ?_
  simp only [Array.replicate_succ, Array.replicate_zero, List.push_toArray, List.append_toArray, List.nil_append, List.cons_append, List.setIfInBounds_toArray, List.set_cons_zero, List.set_cons_succ]
  go_wp2
  simp [bodyPostS, results, Tryz.results24, fv]
set_option maxHeartbeats 4000000 in
set_option maxRecDepth 100000 in
theorem catch_idle (q : Nat) (w : World) :
    CallsD Tryz.prog 24 #[.pointer (some ⟨q, 0, none⟩)] .returning w fun e u' w' => e = .returned (.tuple #[]) ∧ u' = .returning ∧ w' = w := by
  refine callsD_of_wpS Tryz.func24 rfl fun c₀ cs hu => ?_
  apply wpS_seq
  apply wpS_region
  simp [wpOpsS, go_sem, recoverD, hu, Tryz.ntmps24, Exit.thenS]
  apply wpS_seq
  refine wpS_of_wp ?_
  go_wp2
  simp only [Exit.thenS]
  refine wpS_cond (t := false) (by simp [Act.eval, Array.replicate]) ?_
  simp only [Bool.false_eq_true, if_false]
  refine wpS_of_wp (wp_skip ?_)
  cases c₀
  simp_all [bodyPostS, results, Tryz.results24]
end Go.Proofs.YtcldglilhhhdoaaGreatDoor.L
namespace Go.Proofs.YtcldglilhhhdoaaGreatDoor.L
open Go.RowKit Go.Shelf
set_option linter.unusedVariables false
/-- What s has from k to e stands in w from d on; behind it the end or a blank. -/
structure Emb (s w : ByteArray) (k e d : Nat) : Prop where
  le : k ≤ e
  ls : e ≤ s.size
  sz : d + (e - k) ≤ w.size
  same : ∀ j, j < e - k → bt w (d + j) = bt s (k + j)
  stop : bt w (d + (e - k)) = 0 ∨ bt w (d + (e - k)) = 32
theorem Emb.at {s w : ByteArray} {k e d : Nat} (E : Emb s w k e d) {i : Nat} (h1 : k ≤ i) (h2 : i < e) : bt w (d + (i - k)) = bt s i := by
  rw [E.same (i - k) (by omega), show k + (i - k) = i by omega]
theorem list_eq_of_bt (a b : ByteArray) (h : a.size = b.size) (hb : ∀ j, j < a.size → bt a j = bt b j) : a = b := by
  apply ByteArray.ext
  apply Array.toList_inj.1
  apply List.ext_getElem
  · rw [Array.length_toList, Array.length_toList]; exact h
  · intro i h1 h2
    have := hb i (by rw [Array.length_toList] at h1; exact h1)
    unfold bt at this
    rw [List.getD_eq_getElem?_getD, List.getD_eq_getElem?_getD, List.getElem?_eq_getElem h1, List.getElem?_eq_getElem h2] at this
    simpa using this
theorem Emb.text {s w : ByteArray} {k e d : Nat} (E : Emb s w k e d) : w.extract d (d + (e - k)) = s.extract k e := by
  have h1 := E.le
  have h2 := E.ls
  have h3 := E.sz
  apply list_eq_of_bt
  · simp; omega
  · intro j hj
    have hj' : j < e - k := by simp at hj; omega
    rw [bt_ext w d (d + (e - k)) j (by omega) h3, bt_ext s k e j (by omega) h2]
    exact E.same j hj'
theorem emb_beh {s w : ByteArray} {k e d : Nat} (E : Emb s w k e d) : ∀ (n i : Nat), e - i = n → k ≤ i → i ≤ e → behW s i = e → behW w (d + (i - k)) = d + (e - k) := by
  intro n
  induction n using Nat.strongRecOn with
  | ind n ih =>
    intro i hn h1 h2 h
    have h3 := E.sz
    have h4 := E.ls
    by_cases hl : i < e
    · have hs : i < s.size := by omega
      cases c : inwB (iv (bt s i))
      · rw [behW_no s i hs c] at h
        omega
      · rw [behW_go s i hs c] at h
        rw [behW_go w (d + (i - k)) (by omega) (by rw [E.at h1 hl]; exact c), show d + (i - k) + 1 = d + (i + 1 - k) by omega]
        exact ih (e - (i + 1)) (by omega) (i + 1) rfl (by omega) (by omega) h
    · have e1 : i = e := by omega
      subst e1
      by_cases hw : d + (i - k) < w.size
      · refine behW_no w _ hw ?_
        rcases E.stop with h0 | h0 <;> rw [h0] <;> decide
      · exact behW_end w _ hw
theorem esc3_emb {s w : ByteArray} {k e d : Nat} (E : Emb s w k e d) {i : Nat} (h1 : k ≤ i) (h0 : (esc3 s i).2 ≠ 0) (h2 : i + (esc3 s i).2 ≤ e) : esc3 w (d + (i - k)) = esc3 s i := by
  have hin := esc_in h0
  have e1 : bt w (d + (i - k) + 1) = bt s (i + 1) := by rw [show d + (i - k) + 1 = d + (i + 1 - k) by omega]; exact E.at (by omega) (by omega)
  rcases hin.2 with h2' | h4
  · unfold esc3 at h2' ⊢
    rw [e1]
    unfold escV at h2' ⊢
    by_cases g1 : bt s (i + 1) = 34
    · simp [g1]
    by_cases g2 : bt s (i + 1) = 92
    · simp [g2]
    by_cases g3 : bt s (i + 1) = 110
    · simp [g3]
    by_cases g4 : bt s (i + 1) = 116
    · simp [g4]
    by_cases g5 : bt s (i + 1) = 114
    · simp [g5]
    rw [if_neg g1, if_neg g2, if_neg g3, if_neg g4, if_neg g5] at h2'
    split at h2' <;> simp at h2'
  · have e2 : bt w (d + (i - k) + 2) = bt s (i + 2) := by rw [show d + (i - k) + 2 = d + (i + 2 - k) by omega]; exact E.at (by omega) (by omega)
    have e3 : bt w (d + (i - k) + 3) = bt s (i + 3) := by rw [show d + (i - k) + 3 = d + (i + 3 - k) by omega]; exact E.at (by omega) (by omega)
    unfold esc3
    rw [e1, e2, e3]
theorem emb_tx {s w : ByteArray} {k e d : Nat} (E : Emb s w k e d) (f g : Nat) : ∀ (n i : Nat) (l l' : List UInt8), e - i = n → k ≤ i → txS s f i l = .ok l' e → txS w g (d + (i - k)) l = .ok l' (d + (e - k)) := by
  intro n
  induction n using Nat.strongRecOn with
  | ind n ih =>
    intro i l l' hn h1 h
    have h3 := E.sz
    have h4 := E.ls
    by_cases hlt : i < s.size
    · have hie := (txS_in s f _ i l rfl (by omega) l' e h).1
      have es := E.at h1 hie
      have hw : d + (i - k) < w.size := by omega
      by_cases c : bt s i = 34
      · rw [txS_q s f i l hlt c] at h
        rw [txS_q w g _ l hw (by rw [es]; exact c)]
        split at h
        · exact TR.noConfusion h
        · rename_i hll
          obtain ⟨e1, e2⟩ := TR.ok.inj h
          rw [if_neg hll, e1, show d + (i - k) + 1 = d + (e - k) by omega]
      · by_cases dd : bt s i = 92
        · by_cases e0 : (esc3 s i).2 = 0
          · rw [txS_e0 s f i l hlt dd e0] at h
            exact TR.noConfusion h
          · rw [txS_e s f i l hlt dd e0] at h
            have hg := esc_in e0
            have hie2 := (txS_in s f _ _ _ rfl hg.1 l' e h).1
            have hx := esc3_emb E h1 e0 (by omega)
            rw [txS_e w g _ l hw (by rw [es]; exact dd) (by rw [hx]; exact e0), hx, show d + (i - k) + (esc3 s i).2 = d + (i + (esc3 s i).2 - k) by omega]
            exact ih (e - (i + (esc3 s i).2)) (by omega) _ _ _ rfl (by omega) h
        · by_cases e0 : iv (bt s i) < 32
          · rw [txS_low s f i l hlt c dd e0] at h
            exact TR.noConfusion h
          · rw [txS_go s f i l hlt c dd e0] at h
            rw [txS_go w g _ l hw (by rw [es]; exact c) (by rw [es]; exact dd) (by rw [es]; exact e0), es, show d + (i - k) + 1 = d + (i + 1 - k) by omega]
            exact ih (e - (i + 1)) (by omega) _ _ _ rfl (by omega) h
    · rw [txS_end s f i l hlt] at h
      exact TR.noConfusion h
theorem mk2_z' (a : UInt8) : mk2 a 0 = false ∧ mk2 a 32 = false := by
  unfold mk2
  constructor <;> simp
/-- A token read where it stands is read in another source. -/
theorem tok_emb {s w : ByteArray} {k d : Nat} {t : Tok} (hk : k < s.size) (h : tokS s k = .ok t) (E : Emb s w k t.e d) : tokS w d = .ok ⟨t.kind, t.text, t.num, d, d + (t.e - k)⟩ := by
  have hin := tok_in hk h
  have h3 := E.sz
  have e0 : bt w d = bt s k := by have := E.at (Nat.le_refl k) hin.2.1; rwa [Nat.sub_self, Nat.add_zero] at this
  have htx := E.text
  unfold tokS at h ⊢
  rw [e0]
  by_cases c34 : bt s k = 34
  · rw [if_pos c34] at h ⊢
    cases hx : txS s k (k + 1) [] with
    | bad c a => rw [hx] at h; exact RR.noConfusion h
    | ok l e =>
      rw [hx] at h
      have ht := RR.ok.inj h
      subst ht
      have := emb_tx E k d _ (k + 1) [] l rfl (by omega) hx
      rw [show d + (k + 1 - k) = d + 1 by omega] at this
      rw [this]
      rfl
  · rw [if_neg c34] at h ⊢
    by_cases cd : digB (iv (bt s k)) = true ∨ (bt s k = 45 ∧ digB (iv (bt s (k + 1))) = true)
    · rw [if_pos cd] at h
      have hnum : numTok s k = .ok t := h
      unfold numTok at h
      have hlt1 : k + 1 ≤ behW s (k + 1) := (behW_in s _ (k + 1) rfl).1
      cases hn : numS (s.extract k (behW s (k + 1))) with
      | none => rw [hn] at h; exact RR.noConfusion h
      | some n =>
        rw [hn] at h
        have ht := RR.ok.inj h
        subst ht
        have hbw := emb_beh E _ (k + 1) rfl (by omega) hlt1 rfl
        rw [show d + (k + 1 - k) = d + 1 by omega] at hbw
        have cd' : digB (iv (bt s k)) = true ∨ (bt s k = 45 ∧ digB (iv (bt w (d + 1))) = true) := by
          rcases cd with cd | ⟨c1, c2⟩
          · exact Or.inl cd
          · refine Or.inr ⟨c1, ?_⟩
            have hlt : k + 1 < s.size := by
              apply Classical.byContradiction
              intro nn
              rw [bt_out s (k + 1) (by omega)] at c2
              exact absurd c2 (by decide)
            have hgt : k + 1 < behW s (k + 1) := by
              have e1 : behW s (k + 1) = behW s (k + 1 + 1) := behW_go s (k + 1) hlt (dig_inw c2)
              have := (behW_in s _ (k + 1 + 1) rfl).1
              omega
            have := E.at (i := k + 1) (by omega) hgt
            rw [show d + (k + 1 - k) = d + 1 by omega] at this
            rw [this]
            exact c2
        rw [if_pos cd']
        unfold numTok
        simp only at htx
        rw [hbw, htx, hn]
    · rw [if_neg cd] at h
      by_cases ci : inwB (iv (bt s k)) = true
      · rw [if_pos ci] at h
        have ht := RR.ok.inj h
        subst ht
        have hbw := emb_beh E _ k rfl (Nat.le_refl _) (by have := (behW_in s _ k rfl).1; exact this) rfl
        rw [Nat.sub_self, Nat.add_zero] at hbw
        have cd' : ¬ (digB (iv (bt s k)) = true ∨ (bt s k = 45 ∧ digB (iv (bt w (d + 1))) = true)) := by
          rintro (c1 | ⟨c1, c2⟩)
          · exact cd (Or.inl c1)
          · rw [c1] at ci; exact absurd ci (by decide)
        rw [if_neg cd', if_pos ci, hbw]
        simp only at htx
        rw [htx]
      · rw [if_neg ci] at h
        have c45 : bt s k ≠ 45 := by
          intro e
          unfold markS at h
          rw [e] at h
          rw [if_neg (by unfold mk2; simp), if_neg (by decide)] at h
          exact RR.noConfusion h
        rw [if_neg (by rintro (c1 | ⟨c1, c2⟩); exact cd (Or.inl c1); exact c45 c1), if_neg ci]
        unfold markS at h ⊢
        rw [e0]
        by_cases m : mk2 (bt s k) (bt s (k + 1)) = true
        · rw [if_pos m] at h
          have ht := RR.ok.inj h
          subst ht
          have e1 := E.at (i := k + 1) (by omega) (by show k + 1 < k + 2; omega)
          rw [show d + (k + 1 - k) = d + 1 by omega] at e1
          simp only at htx
          rw [show d + (k + 2 - k) = d + 2 by omega] at htx ⊢
          rw [e1, if_pos m, htx]
        · rw [if_neg m] at h
          by_cases m1 : mk1 (bt s k) = true
          · rw [if_pos m1] at h
            have ht := RR.ok.inj h
            subst ht
            have hst := E.stop
            simp only at htx hst
            rw [show d + (k + 1 - k) = d + 1 by omega] at htx hst ⊢
            have m' : ¬ mk2 (bt s k) (bt w (d + 1)) = true := by
              rcases hst with h0 | h0 <;> rw [h0]
              · rw [(mk2_z' _).1]; decide
              · rw [(mk2_z' _).2]; decide
            rw [if_neg m', if_pos m1, htx]
          · rw [if_neg m1] at h
            exact RR.noConfusion h
/-- No token begins with a blank or a remark. -/
theorem tok_first {s : ByteArray} {k : Nat} {t : Tok} (hk : k < s.size) (h : tokS s k = .ok t) : bt s k ≠ 35 ∧ blkB (iv (bt s k)) = false := by
  constructor
  · intro e
    unfold tokS at h
    rw [e, if_neg (by decide), if_neg (by rintro (c | ⟨c, _⟩); exact absurd c (by decide); exact absurd c (by decide)), if_neg (by decide)] at h
    unfold markS at h
    rw [e, if_neg (by unfold mk2; simp), if_neg (by decide)] at h
    exact RR.noConfusion h
  · cases c : blkB (iv (bt s k))
    · rfl
    · exfalso
      unfold blkB at c
      simp only [Bool.or_eq_true, beq_iff_eq] at c
      have hb : bt s k = 32 ∨ bt s k = 9 ∨ bt s k = 10 ∨ bt s k = 13 := by
        rcases c with ((c | c) | c) | c
        · exact Or.inl (iv_eq (n := 32) c rfl (by decide))
        · exact Or.inr (Or.inl (iv_eq (n := 9) c rfl (by decide)))
        · exact Or.inr (Or.inr (Or.inl (iv_eq (n := 10) c rfl (by decide))))
        · exact Or.inr (Or.inr (Or.inr (iv_eq (n := 13) c rfl (by decide))))
      unfold tokS markS at h
      rcases hb with e | e | e | e <;>
      · rw [e, if_neg (by decide), if_neg (by rintro (c | ⟨c, _⟩); exact absurd c (by decide); exact absurd c (by decide)), if_neg (by decide), if_neg (by unfold mk2; simp), if_neg (by decide)] at h
        exact RR.noConfusion h
end Go.Proofs.YtcldglilhhhdoaaGreatDoor.L
namespace Go.Proofs.YtcldglilhhhdoaaGreatDoor.L
open Go.RowKit Go.Shelf
set_option linter.unusedVariables false
theorem bt_app' (a b : ByteArray) (j : Nat) : bt (a ++ b) j = if j < a.size then bt a j else bt b (j - a.size) := by
  unfold bt
  rw [ByteArray.data_append, Array.toList_append]
  have hz : a.data.toList.length = a.size := Array.length_toList
  simp only [List.getD_eq_getElem?_getD]
  split
  · rw [List.getElem?_append_left (by omega)]
  · rw [List.getElem?_append_right (by omega), hz]
/-- The tokens of a source without a fault: each stands where it says; the last one is the end. -/
theorem toks_spec (s : ByteArray) : ∀ (n k : Nat), s.size - k = n → k ≤ s.size → (scanS s k).2 = none → ∃ l, (scanS s k).1 = l ++ [tokE s.size] ∧ ∀ t, t ∈ l → t.a < s.size ∧ tokS s t.a = .ok t ∧ t.e ≤ s.size := by
  intro n
  induction n using Nat.strongRecOn with
  | ind n ih =>
    intro k hn hk h
    by_cases hl : gapS s k < s.size
    · cases ht : tokS s (gapS s k) with
      | bad c a => rw [scan_bad hl ht] at h; cases h
      | ok t =>
        rw [scan_go hl ht] at h ⊢
        have h1 := tok_in hl ht
        have h2 := gapS_ge s k
        obtain ⟨l, e, hall⟩ := ih (s.size - t.e) (by omega) t.e rfl h1.2.2 h
        refine ⟨t :: l, by rw [e]; rfl, ?_⟩
        intro u hu
        rcases List.mem_cons.1 hu with e1 | hu
        · subst e1
          rw [h1.1]
          exact ⟨hl, ht, h1.2.2⟩
        · exact hall u hu
    · rw [scan_fin hl]
      exact ⟨[], rfl, fun t ht => by cases ht⟩
def gp : ByteArray := ⟨#[32, 35, 34, 10]⟩
theorem gp_size : gp.size = 4 := rfl
def key (t : Tok) : Nat × ByteArray × Int := (t.kind, t.text, t.num)
/-- What is written of the tokens, the end's piece last. -/
def widc (s : ByteArray) : List Tok → ByteArray
  | [] => gp
  | t :: r => gp ++ s.extract t.a t.e ++ widc s r
theorem widc_size (s : ByteArray) (l : List Tok) : 4 ≤ (widc s l).size := by
  cases l with
  | nil => exact Nat.le_refl _
  | cons t r => simp only [widc, ByteArray.size_append]; rw [gp_size]; omega
theorem widc_at (s : ByteArray) (l : List Tok) {j : Nat} (hj : j < 4) : bt (widc s l) j = bt gp j := by
  cases l with
  | nil => rfl
  | cons t r =>
    simp only [widc]
    rw [bt_app', if_pos (by simp only [ByteArray.size_append]; rw [gp_size]; omega), bt_app', if_pos (by rw [gp_size]; exact hj)]
theorem gap4 {U : ByteArray} {p : Nat} (hz : p + 4 ≤ U.size) (h0 : bt U p = 32) (h1 : bt U (p + 1) = 35) (h2 : bt U (p + 2) = 34) (h3 : bt U (p + 3) = 10) : gapS U p = gapS U (p + 4) := by
  have e : nlAt U (p + 1) = p + 3 := by
    rw [nlAt_go U (p + 1) (by omega) (by rw [h1]; decide), nlAt_go U (p + 1 + 1) (by omega) (by rw [show p + 1 + 1 = p + 2 by omega, h2]; decide), nlAt_yes U (p + 1 + 1 + 1) (by omega) (by rw [show p + 1 + 1 + 1 = p + 3 by omega]; exact h3)]
  rw [gapS_blk U p (by omega) (by rw [h0]; decide), gapS_rem U (p + 1) (by omega) h1, e, gapS_blk U (p + 3) (by omega) (by rw [h3]; decide)]
theorem ext_bt (s : ByteArray) (a e j : Nat) (h : j < e - a) (he : e ≤ s.size) : bt (s.extract a e) j = bt s (a + j) := bt_ext s a e j (by omega) he
theorem ext_sz (s : ByteArray) (a e : Nat) (he : e ≤ s.size) : (s.extract a e).size = e - a := by simp; omega
theorem wide_scan (s : ByteArray) : ∀ (l : List Tok), (∀ t, t ∈ l → t.a < s.size ∧ tokS s t.a = .ok t ∧ t.e ≤ s.size) → ∀ (pre : ByteArray), (scanS (pre ++ widc s l) pre.size).2 = none ∧ (scanS (pre ++ widc s l) pre.size).1.map key = (l ++ [tokE s.size]).map key
  | [], _, pre => by
    have b : ∀ j, j < 4 → bt (pre ++ widc s []) (pre.size + j) = bt gp j := by
      intro j hj
      rw [bt_app', if_neg (by omega), show pre.size + j - pre.size = j by omega]
      rfl
    have hz : (pre ++ widc s []).size = pre.size + 4 := by simp only [ByteArray.size_append]; rfl
    have hg : gapS (pre ++ widc s []) pre.size = pre.size + 4 := by
      rw [gap4 (p := pre.size) (by omega) (b 0 (by decide)) (b 1 (by decide)) (b 2 (by decide)) (b 3 (by decide))]
      exact gapS_end _ _ (by omega)
    rw [scan_fin (by omega)]
    exact ⟨rfl, rfl⟩
  | t :: r, hall, pre => by
    have ht := hall t (List.mem_cons_self ..)
    have hin := tok_in ht.1 ht.2.1
    have hx := ext_sz s t.a t.e ht.2.2
    have hw4 := widc_size s r
    obtain ⟨U, hU⟩ : ∃ U, U = pre ++ widc s (t :: r) := ⟨_, rfl⟩
    have eU : U = (pre ++ gp ++ s.extract t.a t.e) ++ widc s r := by rw [hU]; simp only [widc, ByteArray.append_assoc]
    have hz : U.size = pre.size + 4 + (t.e - t.a) + (widc s r).size := by rw [eU]; simp only [ByteArray.size_append, hx]; rw [gp_size]
    have b : ∀ j, j < 4 → bt U (pre.size + j) = bt gp j := by
      intro j hj
      rw [hU, bt_app', if_neg (by omega), show pre.size + j - pre.size = j by omega]
      exact widc_at s (t :: r) hj
    have E : Emb s U t.a t.e (pre.size + 4) := by
      refine ⟨by omega, ht.2.2, by omega, ?_, Or.inr ?_⟩
      · intro j hj
        rw [eU, bt_app', if_pos (by simp only [ByteArray.size_append, hx]; rw [gp_size]; omega), bt_app', if_neg (by simp only [ByteArray.size_append]; rw [gp_size]; omega)]
        rw [show pre.size + 4 + j - (pre ++ gp).size = j by simp only [ByteArray.size_append]; rw [gp_size]; omega]
        exact ext_bt s t.a t.e j hj ht.2.2
      · rw [eU, bt_app', if_neg (by simp only [ByteArray.size_append, hx]; rw [gp_size]; omega)]
        rw [show pre.size + 4 + (t.e - t.a) - (pre ++ gp ++ s.extract t.a t.e).size = 0 by simp only [ByteArray.size_append, hx]; rw [gp_size]; omega]
        exact widc_at s r (by decide)
    have htk := tok_emb ht.1 ht.2.1 E
    have hf := tok_first ht.1 ht.2.1
    have e0 : bt U (pre.size + 4) = bt s t.a := by have := E.at (Nat.le_refl t.a) hin.2.1; rwa [Nat.sub_self, Nat.add_zero] at this
    have hg : gapS U pre.size = pre.size + 4 := by
      rw [gap4 (p := pre.size) (by omega) (b 0 (by decide)) (b 1 (by decide)) (b 2 (by decide)) (b 3 (by decide))]
      exact gapS_no _ _ (by omega) (by rw [e0]; exact hf.1) (by rw [e0]; exact hf.2)
    have hs := scan_go (s := U) (k := pre.size) (by rw [hg]; omega) (by rw [hg]; exact htk)
    have ih := wide_scan s r (fun u hu => hall u (List.mem_cons_of_mem _ hu)) (pre ++ gp ++ s.extract t.a t.e)
    rw [← eU, show (pre ++ gp ++ s.extract t.a t.e).size = pre.size + 4 + (t.e - t.a) by simp only [ByteArray.size_append, hx]; rw [gp_size]] at ih
    rw [← hU, hs]
    simp only at ih ⊢
    refine ⟨ih.1, ?_⟩
    rw [List.map_cons, List.cons_append, List.map_cons, ih.2]
    rfl
/-- A token cut out is a source of just that token. -/
theorem alone_scan {s : ByteArray} {t : Tok} (h1 : t.a < s.size) (h2 : tokS s t.a = .ok t) (hs : s.size ≤ 4096) : scanT (s.extract t.a t.e) = ([⟨t.kind, t.text, t.num, 0, t.e - t.a⟩, tokE (t.e - t.a)], none) := by
  have hin := tok_in h1 h2
  have hx := ext_sz s t.a t.e hin.2.2
  have E : Emb s (s.extract t.a t.e) t.a t.e 0 := by
    refine ⟨by omega, hin.2.2, by omega, ?_, Or.inl ?_⟩
    · intro j hj
      rw [Nat.zero_add]
      exact ext_bt s t.a t.e j hj hin.2.2
    · exact bt_out _ _ (by omega)
  have htk := tok_emb h1 h2 E
  have hf := tok_first h1 h2
  have e0 : bt (s.extract t.a t.e) 0 = bt s t.a := by have := E.at (Nat.le_refl t.a) hin.2.1; rwa [Nat.sub_self, Nat.add_zero] at this
  generalize s.extract t.a t.e = u at *
  have hg : gapS u 0 = 0 := gapS_no _ _ (by omega) (by rw [e0]; exact hf.1) (by rw [e0]; exact hf.2)
  have s0 := scan_go (s := u) (k := 0) (by rw [hg]; omega) (by rw [hg]; exact htk)
  have s1 : scanS u (0 + (t.e - t.a)) = ([tokE u.size], none) := scan_fin (by rw [gapS_end u _ (by omega)]; omega)
  simp only at s0
  rw [s1, hx] at s0
  unfold scanT
  rw [if_pos (by omega), s0]
  simp
end Go.Proofs.YtcldglilhhhdoaaGreatDoor.L
