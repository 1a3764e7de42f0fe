import Derived.Test.YtlhlpamciafocaaGreatDoorPbK
import Derived.Recover
import Derived.Defers
import Derived.Laws.Pointers
import Derived.Test.YtlhlpamciafocaaGreatDoorMgAG
namespace Go.Proofs.YtlhlpamciafocaaGreatDoor.L
open Go.RowKit
set_option linter.unusedVariables false
set_option linter.unusedSimpArgs false
theorem own_int {W : World} {B : Nat} {o : Value} {l : List Int} (h : OwnI W B o l) {j : Nat} (hj : j < l.length) : ∃ g c, o = .slice (some ⟨g, 0, none⟩) l.length c ∧ W.cell? ⟨g, j, none⟩ = some (.int .i64 (l.getD j 0)) := by
  rcases h.2 with ⟨_, hn⟩ | ⟨g, cap, cur, e, _⟩
  · omega
  · refine ⟨g, cap, e, ?_⟩
    subst e
    rw [World.ownsRow.cellAt h j (by omega)]
    simp [hj]
theorem own_len {W : World} {B size n : Nat} {e : TypeId} {v : Value} {xs : List Value} (h : W.ownsRow B e size v n xs) : ∃ a c, v = .slice a n c := by
  rcases h.2 with ⟨e, n0⟩ | ⟨g, cap, cur, e, _⟩
  · exact ⟨none, 0, by rw [e, n0]⟩
  · exact ⟨_, _, e⟩
set_option maxHeartbeats 4000000 in
set_option maxRecDepth 100000 in
theorem whole_any {pb B : Nat} {Nb : Nat → Prop} {tv : Value} {T : List Tok} {W : World} {v o : Value} {ks : Nat → Value} (n : Nat) (hn : 4 * T.length + 3 < n) (h : PM pb B Nb tv T W ⟨0, 0, [], []⟩ v o ks) :
    Calls Tryz.prog 24 #[.pointer (some ⟨pb, 0, none⟩)] W fun e W' => Po pb B Nb tv T (fun _ => .tuple #[]) (wholeP T n) W v o e W' := by
  have HP := hid h
  have HP0 := hid h
  have HF0 := hid (Fp.refl pb W v o)
  have HC := hid (gr_any (pb := pb) (B := B) (tv := tv) (T := T) n .expr 0 (by simp only [lvl]; omega))
  have HI := hid (show Inv ⟨0, 0, [], []⟩ from ⟨Nat.le_refl _, rfl⟩)
  clear h hn
  have rf0 := run_f0
  obtain ⟨R, hR⟩ : ∃ R, R = wholeP T n := ⟨_, rfl⟩
  have HR := hid hR.symm
  rw [← hR]
  clear hR
  unfold wholeP at HR
  go_enter Tryz.func24, Tryz.ntmps24
  go_wp2_with fail
  refine (HC.out Nb _ _ _ _ _ HP0.out HI.out (Nat.le_refl _)).mono ?_
  intro e W1 hpo
  cases hq : gr T n .expr ⟨0, 0, [], []⟩ with
  | error q =>
    obtain ⟨c, x⟩ := q
    rw [hq] at hpo HR
    rw [bnd_bad] at HR
    obtain ⟨N, rfl, hf, hb⟩ := po_bad hpo
    have HFL := hid hf
    have HBD := hid ((HP.out.below HF0.out).trans hb)
    clear hf hb hpo hq
    go_wp2_with fail
    rw [← HR.out]
    exact ⟨rfl, N, rfl, HFL.out, HBD.out⟩
  | ok q =>
    obtain ⟨k1, s1⟩ := q
    have HQ1 := hid hq
    rw [hq] at hpo HR
    rw [bnd_ok] at HR
    obtain ⟨rfl, v1, o1, ks1, hp, hf⟩ := po_ok hpo
    have HP1 := hid hp
    have HF1 := hid (HF0.out.trans hf)
    clear hp hf hpo hq
    have HI1 := hid (HI.out.gn (gn_gr n .expr _ _ _ HQ1.out))
    obtain ⟨t, ht⟩ : ∃ t, t = tk T s1.nx := ⟨_, rfl⟩
    have HTK := hid (token_any HP1.out)
    rw [← ht] at HR HTK
    unfold L.tv at HTK
    clear ht
    go_wp2_with fail
    refine HTK.out.mono ?_
    rintro e W2 ⟨rfl, l⟩
    have HP2 := hid (HP1.out.low l)
    have HF2 := hid (HF1.out.below l)
    clear l HTK
    by_cases h0 : t.kind = 0
    · rw [if_pos h0] at HR
      have e0 : ((t.kind : Int) != 0) = false := by simp [h0]
      clear h0
      obtain ⟨va, vc, hvf⟩ := own_len HP2.out.parts.row
      obtain ⟨L, hL⟩ : ∃ L, L = s1.ps.length := ⟨_, rfl⟩
      have HL := hid hL
      rw [← hL] at hvf HR
      clear hL
      have hLm : L ≤ maxLen := by have h1 := (HI1.out.l HP2.out).1; have h2 := HL.out; unfold maxLen; omega
      have c3 : W2.cell? ⟨pb, 3, none⟩ = some v1 := cell_of_row _ _ 3 _ _ _ HP2.out.box
      rw [hvf] at c3
      clear hvf
      by_cases h1 : 1000 < L
      · rw [if_pos h1] at HR
        have d1 : (1000 : Int) < (L : Int) := by omega
        obtain ⟨og, oc, hof, hoc⟩ := own_int HP2.out.offs (j := 1000) (by have h2 := HL.out; have h3 := HI1.out.2; omega)
        obtain ⟨M, hM⟩ : ∃ M, M = s1.os.length := ⟨_, rfl⟩
        rw [← hM] at hof
        have hM1 : (1000 : Int) < (M : Int) := by have h2 := HL.out; have h3 := HI1.out.2; omega
        clear hM h1
        have c4 : W2.cell? ⟨pb, 4, none⟩ = some o1 := cell_of_row _ _ 4 _ _ _ HP2.out.box
        rw [hof] at c4
        clear hof
        go_wp2_with fail
        refine (giveup_any 123 _ _).mono ?_
        rintro e V ⟨N, rfl, hf, hb⟩
        have HFL := hid hf
        have HBD := hid (HP.out.below (HF2.out.below hb))
        clear hf hb
        go_wp2_with fail
        rw [← HR.out]
        exact ⟨rfl, N, rfl, HFL.out, HBD.out⟩
      · rw [if_neg h1] at HR
        have d1 : ¬ (1000 : Int) < (L : Int) := by omega
        clear h1
        go_wp2_with fail
        rw [← HR.out]
        exact ⟨rfl, .tuple #[], by first | rfl | kernel_rfl, rfl, v1, o1, ks1, HP2.out, HF2.out⟩
    · rw [if_neg h0] at HR
      have e0 : ((t.kind : Int) != 0) = true := by simp; omega
      clear h0
      go_wp2_with fail
      refine (refuse_any HP2.out).mono ?_
      rintro e V ⟨N, rfl, hf, hb⟩
      have HFL := hid hf
      have HBD := hid (HP.out.below (HF2.out.below hb))
      clear hf hb
      go_wp2_with fail
      rw [← HR.out]
      exact ⟨rfl, N, rfl, HFL.out, HBD.out⟩
end Go.Proofs.YtlhlpamciafocaaGreatDoor.L
namespace Go.Proofs.YtlhlpamciafocaaGreatDoor.L
open Go.RowKit
set_option linter.unusedVariables false
set_option linter.unusedSimpArgs false
theorem run_as (x : Value) (w : World) : (Instr.typeAssert (.iface 60 x) 20 60 false).run Tryz.prog w = .ok x w := by
  simp [Instr.typeAssert, run_underlying Tryz.underlying60, go_sem, Result.andThen]
set_option maxHeartbeats 4000000 in
set_option maxRecDepth 100000 in
theorem catch_pan (q N : Nat) (older : List PanicEntry) (w : World) (x : Value) (hc : w.cell? ⟨q, 0, none⟩ = some x) (hz : w.frozen? ⟨q, 0, none⟩ = false) :
    CallsD Tryz.prog 23 #[.pointer (some ⟨q, 0, none⟩)] (.panicking ({ v := .iface 60 (.pointer (some ⟨N, 0, none⟩)), recovered := false } :: older)) w fun e u' w' =>
      e = .returned (.tuple #[]) ∧ u' = .panicking ({ v := .iface 60 (.pointer (some ⟨N, 0, none⟩)), recovered := true } :: older) ∧ w' = w.setCell ⟨q, 0, none⟩ (fv N) := by
  have hta := run_as
  refine callsD_of_wpS Tryz.func23 rfl fun c₀ cs hu => ?_
  apply wpS_seq
  apply wpS_region
  simp [wpOpsS, go_sem, recoverD, hu, Tryz.ntmps23, Exit.thenS]
  apply wpS_seq
  refine wpS_of_wp ?_
  go_wp2
  simp only [Exit.thenS]
  refine wpS_cond (t := true) (by simp [Act.eval, Array.replicate]) ?_
  simp only [if_true]
  refine wpS_of_wp ?_
  simp only [Array.replicate_succ, Array.replicate_zero, List.push_toArray, List.append_toArray, List.nil_append, List.cons_append, List.setIfInBounds_toArray, List.set_cons_zero, List.set_cons_succ]
  go_wp2
  simp [bodyPostS, results, Tryz.results23, fv]
set_option maxHeartbeats 4000000 in
set_option maxRecDepth 100000 in
theorem catch_idle (q : Nat) (w : World) :
    CallsD Tryz.prog 23 #[.pointer (some ⟨q, 0, none⟩)] .returning w fun e u' w' => e = .returned (.tuple #[]) ∧ u' = .returning ∧ w' = w := by
  refine callsD_of_wpS Tryz.func23 rfl fun c₀ cs hu => ?_
  apply wpS_seq
  apply wpS_region
  simp [wpOpsS, go_sem, recoverD, hu, Tryz.ntmps23, Exit.thenS]
  apply wpS_seq
  refine wpS_of_wp ?_
  go_wp2
  simp only [Exit.thenS]
  refine wpS_cond (t := false) (by simp [Act.eval, Array.replicate]) ?_
  simp only [Bool.false_eq_true, if_false]
  refine wpS_of_wp (wp_skip ?_)
  cases c₀
  simp_all [bodyPostS, results, Tryz.results23]
end Go.Proofs.YtlhlpamciafocaaGreatDoor.L
namespace Go.Proofs.YtlhlpamciafocaaGreatDoor.L
open Go.RowKit Go.Shelf
set_option linter.unusedVariables false
theorem list_eq_of_bt (a b : ByteArray) (h : a.size = b.size) (hb : ∀ j, j < a.size → bt a j = bt b j) : a = b := by
  apply ByteArray.ext
  apply Array.toList_inj.1
  apply List.ext_getElem
  · rw [Array.length_toList, Array.length_toList]; exact h
  · intro i h1 h2
    have := hb i (by rw [Array.length_toList] at h1; exact h1)
    unfold bt at this
    rw [List.getD_eq_getElem?_getD, List.getD_eq_getElem?_getD, List.getElem?_eq_getElem h1, List.getElem?_eq_getElem h2] at this
    simpa using this
end Go.Proofs.YtlhlpamciafocaaGreatDoor.L
namespace Go.Proofs.YtlhlpamciafocaaGreatDoor.L
open Go.RowKit Go.Shelf
set_option linter.unusedVariables false
/-- The tokens of a source without a fault: each stands where it says; the last one is the end. -/
theorem toks_spec (s : ByteArray) : ∀ (n k : Nat), s.size - k = n → k ≤ s.size → (scanS s k).2 = none → ∃ l, (scanS s k).1 = l ++ [tokE s.size] ∧ ∀ t, t ∈ l → t.a < s.size ∧ tokS s t.a = .ok t ∧ t.e ≤ s.size := by
  intro n
  induction n using Nat.strongRecOn with
  | ind n ih =>
    intro k hn hk h
    by_cases hl : gapS s k < s.size
    · cases ht : tokS s (gapS s k) with
      | bad c a => rw [scan_bad hl ht] at h; cases h
      | ok t =>
        rw [scan_go hl ht] at h ⊢
        have h1 := tok_in hl ht
        have h2 := gapS_ge s k
        obtain ⟨l, e, hall⟩ := ih (s.size - t.e) (by omega) t.e rfl h1.2.2 h
        refine ⟨t :: l, by rw [e]; rfl, ?_⟩
        intro u hu
        rcases List.mem_cons.1 hu with e1 | hu
        · subst e1
          rw [h1.1]
          exact ⟨hl, ht, h1.2.2⟩
        · exact hall u hu
    · rw [scan_fin hl]
      exact ⟨[], rfl, fun t ht => by cases ht⟩
theorem ext_bt (s : ByteArray) (a e j : Nat) (h : j < e - a) (he : e ≤ s.size) : bt (s.extract a e) j = bt s (a + j) := bt_ext s a e j (by omega) he
theorem ext_sz (s : ByteArray) (a e : Nat) (he : e ≤ s.size) : (s.extract a e).size = e - a := by simp; omega
end Go.Proofs.YtlhlpamciafocaaGreatDoor.L
