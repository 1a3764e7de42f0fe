import Derived.Test.YtlhlpamciafocaaGreatDoorPbK
import Derived.Recover
import Derived.Defers
import Derived.Laws.Pointers
import Derived.Test.YtlhlpamciafocaaGreatDoorMgAF
import Derived.RegionTactic
import Derived.ChangeAlike
import Derived.BigRegion
namespace Go.Proofs.YtlhlpamciafocaaGreatDoor.L
open Go.RowKit
set_option linter.unusedVariables false
set_option linter.unusedSimpArgs false
theorem own_int {W : World} {B : Nat} {o : Value} {l : List Int} (h : OwnI W B o l) {j : Nat} (hj : j < l.length) : ∃ g c, o = .slice (some ⟨g, 0, none⟩) l.length c ∧ W.cell? ⟨g, j, none⟩ = some (.int .i64 (l.getD j 0)) := by
  rcases h.2 with ⟨_, hn⟩ | ⟨g, cap, cur, e, _⟩
  · omega
  · refine ⟨g, cap, e, ?_⟩
    subst e
    rw [World.ownsRow.cellAt h j (by omega)]
    simp [hj]
theorem own_len {W : World} {B size n : Nat} {e : TypeId} {v : Value} {xs : List Value} (h : W.ownsRow B e size v n xs) : ∃ a c, v = .slice a n c := by
  rcases h.2 with ⟨e, n0⟩ | ⟨g, cap, cur, e, _⟩
  · exact ⟨none, 0, by rw [e, n0]⟩
  · exact ⟨_, _, e⟩
set_option maxHeartbeats 4000000 in
set_option maxRecDepth 100000 in
theorem whole_any {pb B : Nat} {Nb : Nat → Prop} {tv : Value} {T : List Tok} {W : World} {v o : Value} {ks : Nat → Value} (n : Nat) (hn : 4 * T.length + 3 < n) (h : PM pb B Nb tv T W ⟨0, 0, [], []⟩ v o ks) :
    Calls Tryz.prog 24 #[.pointer (some ⟨pb, 0, none⟩)] W fun e W' => Po pb B Nb tv T (fun _ => .tuple #[]) (wholeP T n) W v o e W' := by
  have HP := hid h
  have HP0 := hid h
  have HF0 := hid (Fp.refl pb W v o)
  have HC := hid (gr_any (pb := pb) (B := B) (tv := tv) (T := T) n .expr 0 (by simp only [lvl]; omega))
  have HI := hid (show Inv ⟨0, 0, [], []⟩ from ⟨Nat.le_refl _, rfl⟩)
  clear h hn
  have rf0 := run_f0
  obtain ⟨R, hR⟩ : ∃ R, R = wholeP T n := ⟨_, rfl⟩
  have HR := hid hR.symm
  rw [← hR]
  clear hR
  unfold wholeP at HR
  go_enter Tryz.func24, Tryz.ntmps24
  go_wp2_with fail
  refine (HC.out Nb _ _ _ _ _ HP0.out HI.out (Nat.le_refl _)).mono ?_
  intro e W1 hpo
  cases hq : gr T n .expr ⟨0, 0, [], []⟩ with
  | error q =>
    obtain ⟨c, x⟩ := q
    rw [hq] at hpo HR
    rw [bnd_bad] at HR
    obtain ⟨N, rfl, hf, hb⟩ := po_bad hpo
    have HFL := hid hf
    have HBD := hid ((HP.out.below HF0.out).trans hb)
    clear hf hb hpo hq
    go_wp2_with fail
    rw [← HR.out]
    exact ⟨rfl, N, rfl, HFL.out, HBD.out⟩
  | ok q =>
    obtain ⟨k1, s1⟩ := q
    have HQ1 := hid hq
    rw [hq] at hpo HR
    rw [bnd_ok] at HR
    obtain ⟨rfl, v1, o1, ks1, hp, hf⟩ := po_ok hpo
    have HP1 := hid hp
    have HF1 := hid (HF0.out.trans hf)
    clear hp hf hpo hq
    have HI1 := hid (HI.out.gn (gn_gr n .expr _ _ _ HQ1.out))
    obtain ⟨t, ht⟩ : ∃ t, t = tk T s1.nx := ⟨_, rfl⟩
    have HTK := hid (token_any HP1.out)
    rw [← ht] at HR HTK
    unfold L.tv at HTK
    clear ht
    go_wp2_with fail
    refine HTK.out.mono ?_
    rintro e W2 ⟨rfl, l⟩
    have HP2 := hid (HP1.out.low l)
    have HF2 := hid (HF1.out.below l)
    clear l HTK
    by_cases h0 : t.kind = 0
    · rw [if_pos h0] at HR
      have e0 : ((t.kind : Int) != 0) = false := by simp [h0]
      clear h0
      obtain ⟨va, vc, hvf⟩ := own_len HP2.out.parts.row
      obtain ⟨L, hL⟩ : ∃ L, L = s1.ps.length := ⟨_, rfl⟩
      have HL := hid hL
      rw [← hL] at hvf HR
      clear hL
      have hLm : L ≤ maxLen := by have h1 := (HI1.out.l HP2.out).1; have h2 := HL.out; unfold maxLen; omega
      have c3 : W2.cell? ⟨pb, 3, none⟩ = some v1 := cell_of_row _ _ 3 _ _ _ HP2.out.box
      rw [hvf] at c3
      clear hvf
      by_cases h1 : 1000 < L
      · rw [if_pos h1] at HR
        have d1 : (1000 : Int) < (L : Int) := by omega
        obtain ⟨og, oc, hof, hoc⟩ := own_int HP2.out.offs (j := 1000) (by have h2 := HL.out; have h3 := HI1.out.2; omega)
        obtain ⟨M, hM⟩ : ∃ M, M = s1.os.length := ⟨_, rfl⟩
        rw [← hM] at hof
        have hM1 : (1000 : Int) < (M : Int) := by have h2 := HL.out; have h3 := HI1.out.2; omega
        clear hM h1
        have c4 : W2.cell? ⟨pb, 4, none⟩ = some o1 := cell_of_row _ _ 4 _ _ _ HP2.out.box
        rw [hof] at c4
        clear hof
        go_wp2_with fail
        refine (giveup_any 123 _ _).mono ?_
        rintro e V ⟨N, rfl, hf, hb⟩
        have HFL := hid hf
        have HBD := hid (HP.out.below (HF2.out.below hb))
        clear hf hb
        go_wp2_with fail
        rw [← HR.out]
        exact ⟨rfl, N, rfl, HFL.out, HBD.out⟩
      · rw [if_neg h1] at HR
        have d1 : ¬ (1000 : Int) < (L : Int) := by omega
        clear h1
        go_wp2_with fail
        rw [← HR.out]
        exact ⟨rfl, .tuple #[], by first | rfl | kernel_rfl, rfl, v1, o1, ks1, HP2.out, HF2.out⟩
    · rw [if_neg h0] at HR
      have e0 : ((t.kind : Int) != 0) = true := by simp; omega
      clear h0
      go_wp2_with fail
      refine (refuse_any HP2.out).mono ?_
      rintro e V ⟨N, rfl, hf, hb⟩
      have HFL := hid hf
      have HBD := hid (HP.out.below (HF2.out.below hb))
      clear hf hb
      go_wp2_with fail
      rw [← HR.out]
      exact ⟨rfl, N, rfl, HFL.out, HBD.out⟩
end Go.Proofs.YtlhlpamciafocaaGreatDoor.L
namespace Go.Proofs.YtlhlpamciafocaaGreatDoor.L
open Go.RowKit
set_option linter.unusedVariables false
set_option linter.unusedSimpArgs false
theorem run_as (x : Value) (w : World) : (Instr.typeAssert (.iface 60 x) 20 60 false).run Tryz.prog w = .ok x w := by
  simp [Instr.typeAssert, run_underlying Tryz.underlying60, go_sem, Result.andThen]
set_option maxHeartbeats 4000000 in
set_option maxRecDepth 100000 in
theorem catch_pan (q N : Nat) (older : List PanicEntry) (w : World) (x : Value) (hc : w.cell? ⟨q, 0, none⟩ = some x) (hz : w.frozen? ⟨q, 0, none⟩ = false) :
    CallsD Tryz.prog 23 #[.pointer (some ⟨q, 0, none⟩)] (.panicking ({ v := .iface 60 (.pointer (some ⟨N, 0, none⟩)), recovered := false } :: older)) w fun e u' w' =>
      e = .returned (.tuple #[]) ∧ u' = .panicking ({ v := .iface 60 (.pointer (some ⟨N, 0, none⟩)), recovered := true } :: older) ∧ w' = w.setCell ⟨q, 0, none⟩ (fv N) := by
  have hta := run_as
  refine callsD_of_wpS Tryz.func23 rfl fun c₀ cs hu => ?_
  apply wpS_seq
  apply wpS_region
  simp [wpOpsS, go_sem, recoverD, hu, Tryz.ntmps23, Exit.thenS]
  apply wpS_seq
  refine wpS_of_wp ?_
  go_wp2
  simp only [Exit.thenS]
  refine wpS_cond (t := true) (by simp [Act.eval, Array.replicate]) ?_
  simp only [if_true]
  refine wpS_of_wp ?_
  simp only [Array.replicate_succ, Array.replicate_zero, List.push_toArray, List.append_toArray, List.nil_append, List.cons_append, List.setIfInBounds_toArray, List.set_cons_zero, List.set_cons_succ]
  go_wp2
  simp [bodyPostS, results, Tryz.results23, fv]
set_option maxHeartbeats 4000000 in
set_option maxRecDepth 100000 in
theorem catch_idle (q : Nat) (w : World) :
    CallsD Tryz.prog 23 #[.pointer (some ⟨q, 0, none⟩)] .returning w fun e u' w' => e = .returned (.tuple #[]) ∧ u' = .returning ∧ w' = w := by
  refine callsD_of_wpS Tryz.func23 rfl fun c₀ cs hu => ?_
  apply wpS_seq
  apply wpS_region
  simp [wpOpsS, go_sem, recoverD, hu, Tryz.ntmps23, Exit.thenS]
  apply wpS_seq
  refine wpS_of_wp ?_
  go_wp2
  simp only [Exit.thenS]
  refine wpS_cond (t := false) (by simp [Act.eval, Array.replicate]) ?_
  simp only [Bool.false_eq_true, if_false]
  refine wpS_of_wp (wp_skip ?_)
  cases c₀
  simp_all [bodyPostS, results, Tryz.results23]
end Go.Proofs.YtlhlpamciafocaaGreatDoor.L
namespace Go.Proofs.YtlhlpamciafocaaGreatDoor.L
open Go.RowKit Go.Shelf
set_option linter.unusedVariables false
theorem list_eq_of_bt (a b : ByteArray) (h : a.size = b.size) (hb : ∀ j, j < a.size → bt a j = bt b j) : a = b := by
  apply ByteArray.ext
  apply Array.toList_inj.1
  apply List.ext_getElem
  · rw [Array.length_toList, Array.length_toList]; exact h
  · intro i h1 h2
    have := hb i (by rw [Array.length_toList] at h1; exact h1)
    unfold bt at this
    rw [List.getD_eq_getElem?_getD, List.getD_eq_getElem?_getD, List.getElem?_eq_getElem h1, List.getElem?_eq_getElem h2] at this
    simpa using this
end Go.Proofs.YtlhlpamciafocaaGreatDoor.L
namespace Go.Proofs.YtlhlpamciafocaaGreatDoor.L
open Go.RowKit Go.Shelf
set_option linter.unusedVariables false
/-- The tokens of a source without a fault: each stands where it says; the last one is the end. -/
theorem toks_spec (s : ByteArray) : ∀ (n k : Nat), s.size - k = n → k ≤ s.size → (scanS s k).2 = none → ∃ l, (scanS s k).1 = l ++ [tokE s.size] ∧ ∀ t, t ∈ l → t.a < s.size ∧ tokS s t.a = .ok t ∧ t.e ≤ s.size := by
  intro n
  induction n using Nat.strongRecOn with
  | ind n ih =>
    intro k hn hk h
    by_cases hl : gapS s k < s.size
    · cases ht : tokS s (gapS s k) with
      | bad c a => rw [scan_bad hl ht] at h; cases h
      | ok t =>
        rw [scan_go hl ht] at h ⊢
        have h1 := tok_in hl ht
        have h2 := gapS_ge s k
        obtain ⟨l, e, hall⟩ := ih (s.size - t.e) (by omega) t.e rfl h1.2.2 h
        refine ⟨t :: l, by rw [e]; rfl, ?_⟩
        intro u hu
        rcases List.mem_cons.1 hu with e1 | hu
        · subst e1
          rw [h1.1]
          exact ⟨hl, ht, h1.2.2⟩
        · exact hall u hu
    · rw [scan_fin hl]
      exact ⟨[], rfl, fun t ht => by cases ht⟩
theorem ext_bt (s : ByteArray) (a e j : Nat) (h : j < e - a) (he : e ≤ s.size) : bt (s.extract a e) j = bt s (a + j) := bt_ext s a e j (by omega) he
theorem ext_sz (s : ByteArray) (a e : Nat) (he : e ≤ s.size) : (s.extract a e).size = e - a := by simp; omega
end Go.Proofs.YtlhlpamciafocaaGreatDoor.L
namespace Go.Proofs.YtlhlpamciafocaaGreatDoor.L
open Go.RowKit
set_option linter.unusedVariables false
set_option linter.unusedSimpArgs false
theorem results_ctc {fn : Func} {p m u : Tmp} {t1 t2 : TypeId} (h : fn.results = #[.cell p t1, .tmp m, .cell u t2]) (tmps : Array Value) (P : Program) (w : World) :
    (results fn tmps).run P w = ((asAddr (tmps.getD p undef)).run P w).andThen fun a w₁ => ((loadVar t1 a).run P w₁).andThen fun v w₂ => ((asAddr (tmps.getD u undef)).run P w₂).andThen fun b w₃ => ((loadVar t2 b).run P w₃).andThen fun x w₄ => .ok (.tuple #[v, tmps.getD m undef, x]) w₄ := by
  simp only [results, h]
  simp [Sem.run_bind, Result.andThen]
theorem infoTr : (Tryz.prog.info? 24).map (·.size) = some 1 := by kernel_rfl
theorem res_parse (tmps : Array Value) (w : World) (bt be : Nat) (v e : Value) (h2 : tmps.getD 2 undef = .pointer (some ⟨bt, 0, none⟩)) (h4 : tmps.getD 4 undef = .pointer (some ⟨be, 0, none⟩)) (hg : w.heap[bt]? = some (.cells #[v] 24 (0, 0))) (he : w.heap[be]? = some (.cells #[e] 27 (0, 0))) : (results Tryz.f12 tmps).run Tryz.prog w = .ok (.tuple #[.agg #[v], tmps.getD 3 undef, e]) w := by
  rw [results_ctc (fn := Tryz.f12) rfl, h2, h4]
  have c0 : w.cell? ⟨be, 0, none⟩ = some e := cell_of_row _ _ 0 _ _ _ he
  simp only [asAddr, Sem.run_pure, Result.andThen_ok, run_loadVar_row (P := Tryz.prog) w bt 24 24 #[v] (0, 0) _ hg Tryz.underlying24 rfl infoTr]
  generalize tmps.getD 3 undef = m
  go_simp
/-- Parse's two boxes have been written: all else stays. -/
structure Pw (bt : Nat) (W W' : World) : Prop where
  os : W'.os = W.os
  tape : W'.tape = W.tape
  output : W'.output = W.output
  size : W.heap.size ≤ W'.heap.size
  block : ∀ k, k ≠ bt → k ≠ bt + 1 → W'.heap[k]? = W.heap[k]?
theorem Pw.below {bt : Nat} {w W W' : World} (h : Below w.heap.size w W) (hw : w.heap.size = bt) (k : Pw bt W W') : Below w.heap.size w W' := ⟨k.os.trans h.os, k.tape.trans h.tape, k.output.trans h.output, Nat.le_trans h.size k.size, fun j hj => (k.block j (by omega) (by omega)).trans (h.block j hj)⟩
theorem pw_set {bt : Nat} {W : World} {x y : Value} (hT : W.heap[bt]? = some (.cells #[x] 24 (0, 0))) (hE : W.heap[bt + 1]? = some (.cells #[y] 27 (0, 0))) (x' y' : Value) : Pw bt W ((W.setCell ⟨bt, 0, none⟩ x').setCell ⟨bt + 1, 0, none⟩ y').drew ∧ ((W.setCell ⟨bt, 0, none⟩ x').setCell ⟨bt + 1, 0, none⟩ y').drew.heap[bt]? = some (.cells #[x'] 24 (0, 0)) ∧ ((W.setCell ⟨bt, 0, none⟩ x').setCell ⟨bt + 1, 0, none⟩ y').drew.heap[bt + 1]? = some (.cells #[y'] 27 (0, 0)) := by
  have h1 : (W.setCell ⟨bt, 0, none⟩ x').heap[bt]? = some (.cells #[x'] 24 (0, 0)) := by rw [setCell_eq_setRow _ _ _ _ _ _ _ hT, setRow_heap _ _ _ _ _ _ hT]; rfl
  have h2 : (W.setCell ⟨bt, 0, none⟩ x').heap[bt + 1]? = some (.cells #[y] 27 (0, 0)) := (set_oth hT 0 x' (by omega)).trans hE
  refine ⟨⟨rfl, rfl, rfl, by simp [World.drew], fun k k1 k2 => (set_oth h2 0 y' k2).trans (set_oth hT 0 x' k1)⟩, (set_oth h2 0 y' (by omega)).trans h1, ?_⟩
  show ((W.setCell ⟨bt, 0, none⟩ x').setCell ⟨bt + 1, 0, none⟩ y').heap[bt + 1]? = _
  rw [setCell_eq_setRow _ _ _ _ _ _ _ h2, setRow_heap _ _ _ _ _ _ h2]
  rfl
theorem pw_one {bt : Nat} {W : World} {y : Value} (hE : W.heap[bt + 1]? = some (.cells #[y] 27 (0, 0))) (y' : Value) : Pw bt W (W.setCell ⟨bt + 1, 0, none⟩ y') ∧ (W.setCell ⟨bt + 1, 0, none⟩ y').heap[bt + 1]? = some (.cells #[y'] 27 (0, 0)) := by
  refine ⟨⟨rfl, rfl, rfl, by simp, fun k k1 k2 => set_oth hE 0 y' k2⟩, ?_⟩
  rw [setCell_eq_setRow _ _ _ _ _ _ _ hE, setRow_heap _ _ _ _ _ _ hE]
  rfl
theorem pw_bt {bt : Nat} {W : World} {o : Obj} {y : Value} (hT : W.heap[bt]? = some o) (hE : W.heap[bt + 1]? = some (.cells #[y] 27 (0, 0))) (y' : Value) : (W.setCell ⟨bt + 1, 0, none⟩ y').heap[bt]? = some o := (set_oth hE 0 y' (by omega)).trans hT
set_option maxHeartbeats 4000000 in
set_option maxRecDepth 100000 in
theorem pfail_any (src : ByteArray) (w : World) (hv : Vars w) (c a : Nat) (hs : (scanT src).2 = some (c, a)) : Calls Tryz.prog 12 #[.string src] w fun e w' => Below w.heap.size w w' ∧ ∃ N, e = .returned (.tuple #[.agg #[.slice none 0 0], .slice none 0 0, fv N]) ∧ Flt w' N c a := by
  have hmf : ∀ (fn : Fn) (first cap : Array Value) (w : World), (Instr.makeFunc fn first cap).run Tryz.prog w = .ok (.func fn first cap) w := fun _ _ _ _ => rfl
  have HS := hid hs
  have HB1 := hid (show Below w.heap.size w ((w.alloc (.cells #[.slice none 0 0] 24)).alloc (.cells #[.nilIface] 27)) from (belowA w _).trans ((belowA _ _).mono (belowA w _).size))
  have HT1 := hid (show ((w.alloc (.cells #[.slice none 0 0] 24)).alloc (.cells #[.nilIface] 27)).heap[w.heap.size]? = some (.cells #[.slice none 0 0] 24 (0, 0)) from ((belowA (w.alloc (.cells #[.slice none 0 0] 24)) (.cells #[.nilIface] 27)).block _ (by simp)).trans (heap_alloc_new w _))
  have HE1 := hid (show ((w.alloc (.cells #[.slice none 0 0] 24)).alloc (.cells #[.nilIface] 27)).heap[w.heap.size + 1]? = some (.cells #[.nilIface] 27 (0, 0)) from (by have h1 := heap_alloc_new (w.alloc (.cells #[.slice none 0 0] 24)) (.cells #[.nilIface] 27); rw [World.size_alloc] at h1; exact h1))
  have HV1 := hid (hv.low HB1.out)
  clear hs
  go_enter_defers Tryz.func12, Tryz.ntmps12
  go_upto_region 1 with fail
  generalize ((w.alloc (.cells #[.slice none 0 0] 24)).alloc (.cells #[.nilIface] 27)) = W1 at *
  generalize hbt : w.heap.size = bt at *
  have HBT := hid hbt
  clear hbt
  go_wp2_with fail
  refine (scan_any src W1 HV1.out).mono ?_
  rintro e W2 ⟨l, h1 | ⟨N, c1, a1, h1, rfl, hf, hN⟩⟩
  · obtain ⟨v, h1, _⟩ := h1
    rw [HS.out] at h1
    cases h1
  rw [HS.out] at h1
  injection h1 with h1
  injection h1 with h1 h2
  subst h1
  subst h2
  have HT2 := hid ((l.block _ (lt_blk HT1.out)).trans HT1.out)
  have HE2 := hid ((l.block _ (lt_blk HE1.out)).trans HE1.out)
  have HB2 := hid (HB1.out.trans (l.mono (by have := lt_blk HE1.out; omega)))
  have HF2 := hid hf
  have HNN := hid (show N ≠ bt ∧ N ≠ bt + 1 from ⟨fun e => (by have := lt_blk HE1.out; omega), fun e => (by have := lt_blk HE1.out; omega)⟩)
  clear l hf hN
  unfold fv
  have fz : W2.frozen? ⟨bt + 1, 0, none⟩ = false := frz_row HE2.out 0
  have cc : W2.cell? ⟨bt + 1, 0, none⟩ = some .nilIface := cell_of_row _ _ 0 _ _ _ HE2.out
  go_upto_region 2 with fail
  have HP3 := hid (pw_one HE2.out (.iface 60 (.pointer (some ⟨N, 0, none⟩)))).1
  have HE3 := hid (pw_one HE2.out (.iface 60 (.pointer (some ⟨N, 0, none⟩)))).2
  have HT3 := hid (pw_bt HT2.out HE2.out (.iface 60 (.pointer (some ⟨N, 0, none⟩))))
  generalize W2.setCell ⟨bt + 1, 0, none⟩ (.iface 60 (.pointer (some ⟨N, 0, none⟩))) = W3 at *
  clear fz cc
  have cE : W3.cell? ⟨bt + 1, 0, none⟩ = some (.iface 60 (.pointer (some ⟨N, 0, none⟩))) := cell_of_row _ _ 0 _ _ _ HE3.out
  have cT : W3.cell? ⟨bt, 0, none⟩ = some (.slice none 0 0) := cell_of_row _ _ 0 _ _ _ HT3.out
  have fE := frz_row HE3.out 0
  have fT := frz_row HT3.out 0
  go_upto_region 3 with fail
  go_region
  all_goals
    go_wp2_with fail
    have HW := hid (pw_set HT3.out HE3.out (.slice none 0 0) (.iface 60 (.pointer (some ⟨N, 0, none⟩))))
    generalize ((W3.setCell ⟨bt, 0, none⟩ (.slice none 0 0)).setCell ⟨bt + 1, 0, none⟩ (.iface 60 (.pointer (some ⟨N, 0, none⟩)))).drew = W4 at *
    clear cE cT fE fT
    refine ⟨_, res_parse _ W4 bt (bt + 1) (.slice none 0 0) _ rfl rfl HW.out.2.1 HW.out.2.2, ?_⟩
    refine ⟨?_, N, rfl, ?_⟩
    · have h1 := Pw.below (bt := bt) (by rw [HBT.out]; exact HB2.out) HBT.out HP3.out
      have h2 := Pw.below (bt := bt) h1 HBT.out HW.out.1
      exact h2
    · exact (HW.out.1.block N HNN.out.1 HNN.out.2).trans ((HP3.out.block N HNN.out.1 HNN.out.2).trans HF2.out)
theorem tk_last (l : List Tok) (t : Tok) : tk (l ++ [t]) l.length = t := by unfold tk; simp
theorem scan_shape {src : ByteArray} (h : (scanT src).2 = none) : src.size ≤ 4096 ∧ ∃ l, (scanT src).1 = l ++ [tokE src.size] ∧ ∀ t, t ∈ l → t.a < src.size ∧ tokS src t.a = .ok t ∧ t.e ≤ src.size := by
  unfold scanT at h ⊢
  by_cases hz : src.size ≤ 4096
  · rw [if_pos hz] at h ⊢
    exact ⟨hz, toks_spec src _ 0 rfl (Nat.zero_le _) h⟩
  · rw [if_neg hz] at h
    cases h
theorem scan_fin2 {src : ByteArray} (h : (scanT src).2 = none) : 0 < (scanT src).1.length ∧ ∀ k, k < (scanT src).1.length → (tk (scanT src).1 k).kind ≠ 0 → k + 1 < (scanT src).1.length := by
  obtain ⟨_, l, hl, _⟩ := scan_shape h
  rw [hl]
  refine ⟨by simp, fun k hk hne => ?_⟩
  by_cases e : k = l.length
  · subst e
    rw [tk_last] at hne
    exact absurd rfl hne
  · simp at hk ⊢
    omega
/-- What a source gives. -/
def parR (src : ByteArray) : Except (Nat × Int) PS :=
  match (scanT src).2 with
  | some (c, a) => .error (c, (a : Int))
  | none => match wholeP (scanT src).1 (16392) with
    | .ok (_, s) => .ok s
    | .error e => .error e
set_option maxHeartbeats 4000000 in
set_option maxRecDepth 100000 in
theorem ppan_any (src : ByteArray) (w : World) (hv : Vars w) (c : Nat) (x : Int) (hs : (scanT src).2 = none) (hw : wholeP (scanT src).1 (16392) = .error (c, x)) : Calls Tryz.prog 12 #[.string src] w fun e w' => Below w.heap.size w w' ∧ ∃ N, e = .returned (.tuple #[.agg #[.slice none 0 0], .slice none 0 0, fv N]) ∧ Fli w' N c x := by
  have HWP := hid hw
  clear hw
  have hmf : ∀ (fn : Fn) (first cap : Array Value) (w : World), (Instr.makeFunc fn first cap).run Tryz.prog w = .ok (.func fn first cap) w := fun _ _ _ _ => rfl
  have HS := hid hs
  have HB1 := hid (show Below w.heap.size w ((w.alloc (.cells #[.slice none 0 0] 24)).alloc (.cells #[.nilIface] 27)) from (belowA w _).trans ((belowA _ _).mono (belowA w _).size))
  have HT1 := hid (show ((w.alloc (.cells #[.slice none 0 0] 24)).alloc (.cells #[.nilIface] 27)).heap[w.heap.size]? = some (.cells #[.slice none 0 0] 24 (0, 0)) from ((belowA (w.alloc (.cells #[.slice none 0 0] 24)) (.cells #[.nilIface] 27)).block _ (by simp)).trans (heap_alloc_new w _))
  have HE1 := hid (show ((w.alloc (.cells #[.slice none 0 0] 24)).alloc (.cells #[.nilIface] 27)).heap[w.heap.size + 1]? = some (.cells #[.nilIface] 27 (0, 0)) from (by have h1 := heap_alloc_new (w.alloc (.cells #[.slice none 0 0] 24)) (.cells #[.nilIface] 27); rw [World.size_alloc] at h1; exact h1))
  have HV1 := hid (hv.low HB1.out)
  clear hs
  go_enter_defers Tryz.func12, Tryz.ntmps12
  go_upto_region 1 with fail
  generalize ((w.alloc (.cells #[.slice none 0 0] 24)).alloc (.cells #[.nilIface] 27)) = W1 at *
  generalize hbt : w.heap.size = bt at *
  have HBT := hid hbt
  clear hbt
  go_wp2_with fail
  refine (scan_any src W1 HV1.out).mono ?_
  rintro e W2 ⟨l, ⟨tv, h1, rfl, ht⟩ | ⟨N, c1, a1, h1, _⟩⟩
  rotate_left
  · rw [HS.out] at h1
    cases h1
  clear h1
  obtain ⟨ta, tn, tc, rfl⟩ : ∃ ta tn tc, tv = .slice ta tn tc := (by obtain ⟨a, c, e⟩ := own_len ht; exact ⟨a, _, c, e⟩)
  have HT2 := hid ((l.block _ (lt_blk HT1.out)).trans HT1.out)
  have HE2 := hid ((l.block _ (lt_blk HE1.out)).trans HE1.out)
  have HB2 := hid (HB1.out.trans (l.mono (by have := lt_blk HE1.out; omega)))
  have HTK := hid ht
  have HBD := hid (lt_blk HE1.out)
  clear l ht
  have fz : W2.frozen? ⟨bt + 1, 0, none⟩ = false := frz_row HE2.out 0
  have cc : W2.cell? ⟨bt + 1, 0, none⟩ = some .nilIface := cell_of_row _ _ 0 _ _ _ HE2.out
  go_upto_region 2 with fail
  have HP3 := hid (pw_one HE2.out .nilIface).1
  have HE3 := hid (pw_one HE2.out .nilIface).2
  have HT3 := hid (pw_bt HT2.out HE2.out .nilIface)
  have HK3 := hid (show OwnT (W2.setCell ⟨bt + 1, 0, none⟩ .nilIface) W1.heap.size (.slice ta tn tc) (scanT src).1 from row_kept HTK.out (fun k hk => set_oth HE2.out 0 .nilIface (type_box HTK.out HE2.out (by decide) hk)))
  generalize W2.setCell ⟨bt + 1, 0, none⟩ .nilIface = W3 at *
  clear fz cc
  have cE : W3.cell? ⟨bt + 1, 0, none⟩ = some .nilIface := cell_of_row _ _ 0 _ _ _ HE3.out
  go_upto_region 6 with fail
  obtain ⟨T, hT⟩ : ∃ T, T = (scanT src).1 := ⟨_, rfl⟩
  have HTE := hid hT
  rw [← hT] at HK3
  have HP4 := hid (show PM W3.heap.size W3.heap.size (fun k => k = bt ∨ k = bt + 1) (.slice ta tn tc) T (W3.alloc (.cells #[.slice ta tn tc, .int .i64 0, .int .i64 0, .slice none 0 0, .slice none 0 0] 63)) ⟨0, 0, [], []⟩ (.slice none 0 0) (.slice none 0 0) (fun _ => .slice none 0 0) from ⟨heap_alloc_new _ _, row_mono (row_kept HK3.out (fun k hk => (belowA W3 _).block k (row_at HK3.out hk).2.1)) (Nat.zero_le _), fun k hk => (row_at HK3.out hk).2.1, ⟨World.ownsRow_nil _ _ _ _, fun j hj => absurd hj (Nat.not_lt_zero _)⟩, World.ownsRow_nil _ _ _ _, Nat.le_refl _, by have h1 := scan_fin2 HS.out; rw [← hT] at h1; exact h1.1, by decide, by rw [hT]; exact scanT_len src, by have h1 := scan_fin2 HS.out; rw [← hT] at h1; exact h1.2, fun j hj => absurd hj (Nat.not_lt_zero _), ⟨fun j hj => absurd hj (Nat.not_lt_zero _), fun k hk => (by cases hk), fun k hk => (by have h1 := lt_blk HE3.out; have h2 := (belowA W3 (.cells #[.slice ta tn tc, .int .i64 0, .int .i64 0, .slice none 0 0, .slice none 0 0] 63)).size; rcases hk with rfl | rfl <;> omega), fun i j hi => absurd hi (Nat.not_lt_zero _)⟩⟩)
  clear hT
  have HB4 := hid (belowA W3 (.cells #[.slice ta tn tc, .int .i64 0, .int .i64 0, .slice none 0 0, .slice none 0 0] 63))
  have HT4 := hid (((belowA W3 (.cells #[.slice ta tn tc, .int .i64 0, .int .i64 0, .slice none 0 0, .slice none 0 0] 63)).block _ (lt_blk HT3.out)).trans HT3.out)
  have HE4 := hid (((belowA W3 (.cells #[.slice ta tn tc, .int .i64 0, .int .i64 0, .slice none 0 0, .slice none 0 0] 63)).block _ (lt_blk HE3.out)).trans HE3.out)
  clear cE
  generalize W3.alloc (.cells #[.slice ta tn tc, .int .i64 0, .int .i64 0, .slice none 0 0, .slice none 0 0] 63) = W4 at *
  have HB34 := hid (show Below W3.heap.size W3 W4 from HB4.out)
  generalize hpb : W3.heap.size = pb at *
  have HPB := hid hpb
  clear hpb
  have HWH := hid (whole_any 16392 (by have := HP4.out.tl; omega) HP4.out)
  rw [← HTE.out] at HWP
  rw [HWP.out] at HWH
  go_wp2_with fail
  refine HWH.out.mono ?_
  intro e W5 hpo
  obtain ⟨N, rfl, hf, hb⟩ := po_bad hpo
  have HF5 := hid hf
  have HT5 := hid ((hb.block bt (by have := lt_blk HT3.out; have := HPB.out; omega)).trans HT4.out)
  have HE5 := hid ((hb.block (bt + 1) (by have := lt_blk HE3.out; have := HPB.out; omega)).trans HE4.out)
  have HB5 := hid (HB34.out.trans hb)
  clear hf hb hpo HWH
  go_wp2_with fail
  refine leaves_cons (f := 23) (args := #[.pointer (some ⟨bt + 1, 0, none⟩)]) (by simp) (by simp [go_sem]) ?_
  refine (catch_pan (bt + 1) N [] W5 .nilIface (cell_of_row _ _ 0 _ _ _ HE5.out) (frz_row HE5.out 0)).mono ?_
  rintro e u' w'' ⟨rfl, rfl, rfl⟩
  simp only [Leaves, settle, List.dropWhile]
  have HP6 := hid (pw_one HE5.out (fv N)).1
  have HE6 := hid (pw_one HE5.out (fv N)).2
  have HT6 := hid (pw_bt HT5.out HE5.out (fv N))
  refine ⟨_, res_parse _ _ bt (bt + 1) (.slice none 0 0) _ rfl rfl HT6.out HE6.out, ?_⟩
  refine ⟨?_, N, rfl, ?_⟩
  · have h1 := Pw.below (bt := bt) (by rw [HBT.out]; exact HB2.out) HBT.out HP3.out
    have h2 : Below w.heap.size w W5 := h1.trans (HB5.out.mono (by have := h1.size; have := HPB.out; omega))
    have h3 := Pw.below (bt := bt) h2 HBT.out HP6.out
    exact h3
  · refine (set_oth HE5.out 0 (fv N) (fun e => ?_)).trans HF5.out
    have h1 : W5.heap[N]? = _ := HF5.out
    rw [e, HE5.out] at h1
    cases h1
theorem PM.pw {pb B : Nat} {Nb : Nat → Prop} {tv : Value} {T : List Tok} {W W' : World} {s : PS} {v o : Value} {ks : Nat → Value} {bt : Nat} {x y : Value} (h : PM pb B Nb tv T W s v o ks) (hT : W.heap[bt]? = some (.cells #[x] 24 (0, 0))) (hE : W.heap[bt + 1]? = some (.cells #[y] 27 (0, 0))) (hw : Pw bt W W') : PM pb B Nb tv T W' s v o ks := by
  have key : ∀ {e : TypeId} {base size n : Nat} {u : Value} {xs : List Value}, e ≠ 24 → e ≠ 27 → W.ownsRow base e size u n xs → W'.ownsRow base e size u n xs := by
    intro e base size n u xs h1 h2 hr
    exact row_kept hr (fun k hkk => hw.block k (type_box hr hT h1 hkk) (type_box hr hE h2 hkk))
  have n1 : pb ≠ bt := fun e => by
    have h1 := h.box
    rw [e, hT] at h1
    cases h1
  have n2 : pb ≠ bt + 1 := fun e => by
    have h1 := h.box
    rw [e, hE] at h1
    cases h1
  exact ⟨(hw.block pb n1 n2).trans h.box, key (by decide) (by decide) h.tok, h.tlt, ⟨key (by decide) (by decide) h.parts.row, fun j hj => key (by decide) (by decide) (h.parts.kids j hj)⟩, key (by decide) (by decide) h.offs, h.pbB, h.nx, h.ns, h.tl, h.fin, h.apart, h.apx.size (fun k hk => Nat.lt_of_lt_of_le hk hw.size)⟩
theorem pw_three {bt : Nat} {W : World} {x y : Value} (hT : W.heap[bt]? = some (.cells #[x] 24 (0, 0))) (hE : W.heap[bt + 1]? = some (.cells #[y] 27 (0, 0))) (x0 x' y' : Value) : Pw bt W (((W.setCell ⟨bt, 0, none⟩ x0).setCell ⟨bt, 0, none⟩ x').setCell ⟨bt + 1, 0, none⟩ y').drew ∧ (((W.setCell ⟨bt, 0, none⟩ x0).setCell ⟨bt, 0, none⟩ x').setCell ⟨bt + 1, 0, none⟩ y').drew.heap[bt]? = some (.cells #[x'] 24 (0, 0)) ∧ (((W.setCell ⟨bt, 0, none⟩ x0).setCell ⟨bt, 0, none⟩ x').setCell ⟨bt + 1, 0, none⟩ y').drew.heap[bt + 1]? = some (.cells #[y'] 27 (0, 0)) := by
  have h1 : (W.setCell ⟨bt, 0, none⟩ x0).heap[bt]? = some (.cells #[x0] 24 (0, 0)) := by rw [setCell_eq_setRow _ _ _ _ _ _ _ hT, setRow_heap _ _ _ _ _ _ hT]; rfl
  have h2 : (W.setCell ⟨bt, 0, none⟩ x0).heap[bt + 1]? = some (.cells #[y] 27 (0, 0)) := (set_oth hT 0 x0 (by omega)).trans hE
  have ⟨k1, k2, k3⟩ := pw_set h1 h2 x' y'
  exact ⟨⟨k1.os, k1.tape, k1.output, Nat.le_trans (by simp) k1.size, fun k h3 h4 => (k1.block k h3 h4).trans (set_oth hT 0 x0 h3)⟩, k2, k3⟩
set_option maxHeartbeats 4000000 in
set_option maxRecDepth 100000 in
theorem pok_any (src : ByteArray) (w : World) (hv : Vars w) (s' : PS) (hs : (scanT src).2 = none) (hw : wholeP (scanT src).1 (16392) = .ok ((), s')) : Calls Tryz.prog 12 #[.string src] w fun e w' => Below w.heap.size w w' ∧ ∃ pb B Nb tv T v o ks, w.heap.size ≤ B ∧ e = .returned (.tuple #[.agg #[v], o, .nilIface]) ∧ PM pb B Nb tv T w' s' v o ks := by
  have HWP := hid hw
  clear hw
  have hmf : ∀ (fn : Fn) (first cap : Array Value) (w : World), (Instr.makeFunc fn first cap).run Tryz.prog w = .ok (.func fn first cap) w := fun _ _ _ _ => rfl
  have HS := hid hs
  have HB1 := hid (show Below w.heap.size w ((w.alloc (.cells #[.slice none 0 0] 24)).alloc (.cells #[.nilIface] 27)) from (belowA w _).trans ((belowA _ _).mono (belowA w _).size))
  have HT1 := hid (show ((w.alloc (.cells #[.slice none 0 0] 24)).alloc (.cells #[.nilIface] 27)).heap[w.heap.size]? = some (.cells #[.slice none 0 0] 24 (0, 0)) from ((belowA (w.alloc (.cells #[.slice none 0 0] 24)) (.cells #[.nilIface] 27)).block _ (by simp)).trans (heap_alloc_new w _))
  have HE1 := hid (show ((w.alloc (.cells #[.slice none 0 0] 24)).alloc (.cells #[.nilIface] 27)).heap[w.heap.size + 1]? = some (.cells #[.nilIface] 27 (0, 0)) from (by have h1 := heap_alloc_new (w.alloc (.cells #[.slice none 0 0] 24)) (.cells #[.nilIface] 27); rw [World.size_alloc] at h1; exact h1))
  have HV1 := hid (hv.low HB1.out)
  clear hs
  go_enter_defers Tryz.func12, Tryz.ntmps12
  go_upto_region 1 with fail
  generalize ((w.alloc (.cells #[.slice none 0 0] 24)).alloc (.cells #[.nilIface] 27)) = W1 at *
  generalize hbt : w.heap.size = bt at *
  have HBT := hid hbt
  clear hbt
  go_wp2_with fail
  refine (scan_any src W1 HV1.out).mono ?_
  rintro e W2 ⟨l, ⟨tv, h1, rfl, ht⟩ | ⟨N, c1, a1, h1, _⟩⟩
  rotate_left
  · rw [HS.out] at h1
    cases h1
  clear h1
  obtain ⟨ta, tn, tc, rfl⟩ : ∃ ta tn tc, tv = .slice ta tn tc := (by obtain ⟨a, c, e⟩ := own_len ht; exact ⟨a, _, c, e⟩)
  have HT2 := hid ((l.block _ (lt_blk HT1.out)).trans HT1.out)
  have HE2 := hid ((l.block _ (lt_blk HE1.out)).trans HE1.out)
  have HB2 := hid (HB1.out.trans (l.mono (by have := lt_blk HE1.out; omega)))
  have HTK := hid ht
  have HBD := hid (lt_blk HE1.out)
  clear l ht
  have fz : W2.frozen? ⟨bt + 1, 0, none⟩ = false := frz_row HE2.out 0
  have cc : W2.cell? ⟨bt + 1, 0, none⟩ = some .nilIface := cell_of_row _ _ 0 _ _ _ HE2.out
  go_upto_region 2 with fail
  have HP3 := hid (pw_one HE2.out .nilIface).1
  have HE3 := hid (pw_one HE2.out .nilIface).2
  have HT3 := hid (pw_bt HT2.out HE2.out .nilIface)
  have HK3 := hid (show OwnT (W2.setCell ⟨bt + 1, 0, none⟩ .nilIface) W1.heap.size (.slice ta tn tc) (scanT src).1 from row_kept HTK.out (fun k hk => set_oth HE2.out 0 .nilIface (type_box HTK.out HE2.out (by decide) hk)))
  generalize W2.setCell ⟨bt + 1, 0, none⟩ .nilIface = W3 at *
  clear fz cc
  have cE : W3.cell? ⟨bt + 1, 0, none⟩ = some .nilIface := cell_of_row _ _ 0 _ _ _ HE3.out
  go_upto_region 6 with fail
  obtain ⟨T, hT⟩ : ∃ T, T = (scanT src).1 := ⟨_, rfl⟩
  have HTE := hid hT
  rw [← hT] at HK3
  have HP4 := hid (show PM W3.heap.size W3.heap.size (fun k => k = bt ∨ k = bt + 1) (.slice ta tn tc) T (W3.alloc (.cells #[.slice ta tn tc, .int .i64 0, .int .i64 0, .slice none 0 0, .slice none 0 0] 63)) ⟨0, 0, [], []⟩ (.slice none 0 0) (.slice none 0 0) (fun _ => .slice none 0 0) from ⟨heap_alloc_new _ _, row_mono (row_kept HK3.out (fun k hk => (belowA W3 _).block k (row_at HK3.out hk).2.1)) (Nat.zero_le _), fun k hk => (row_at HK3.out hk).2.1, ⟨World.ownsRow_nil _ _ _ _, fun j hj => absurd hj (Nat.not_lt_zero _)⟩, World.ownsRow_nil _ _ _ _, Nat.le_refl _, by have h1 := scan_fin2 HS.out; rw [← hT] at h1; exact h1.1, by decide, by rw [hT]; exact scanT_len src, by have h1 := scan_fin2 HS.out; rw [← hT] at h1; exact h1.2, fun j hj => absurd hj (Nat.not_lt_zero _), ⟨fun j hj => absurd hj (Nat.not_lt_zero _), fun k hk => (by cases hk), fun k hk => (by have h1 := lt_blk HE3.out; have h2 := (belowA W3 (.cells #[.slice ta tn tc, .int .i64 0, .int .i64 0, .slice none 0 0, .slice none 0 0] 63)).size; rcases hk with rfl | rfl <;> omega), fun i j hi => absurd hi (Nat.not_lt_zero _)⟩⟩)
  clear hT
  have HB4 := hid (belowA W3 (.cells #[.slice ta tn tc, .int .i64 0, .int .i64 0, .slice none 0 0, .slice none 0 0] 63))
  have HT4 := hid (((belowA W3 (.cells #[.slice ta tn tc, .int .i64 0, .int .i64 0, .slice none 0 0, .slice none 0 0] 63)).block _ (lt_blk HT3.out)).trans HT3.out)
  have HE4 := hid (((belowA W3 (.cells #[.slice ta tn tc, .int .i64 0, .int .i64 0, .slice none 0 0, .slice none 0 0] 63)).block _ (lt_blk HE3.out)).trans HE3.out)
  clear cE
  generalize W3.alloc (.cells #[.slice ta tn tc, .int .i64 0, .int .i64 0, .slice none 0 0, .slice none 0 0] 63) = W4 at *
  have HB34 := hid (show Below W3.heap.size W3 W4 from HB4.out)
  generalize hpb : W3.heap.size = pb at *
  have HPB := hid hpb
  clear hpb
  have HWH := hid (whole_any 16392 (by have := HP4.out.tl; omega) HP4.out)
  rw [← HTE.out] at HWP
  rw [HWP.out] at HWH
  go_wp2_with fail
  refine HWH.out.mono ?_
  intro e W5 hpo
  obtain ⟨rfl, v, o, ks, hp, hf⟩ := po_ok hpo
  have HP5 := hid hp
  have hb := HP4.out.below hf
  have HT5 := hid ((hb.block bt (by have := lt_blk HT3.out; have := HPB.out; omega)).trans HT4.out)
  have HE5 := hid ((hb.block (bt + 1) (by have := lt_blk HE3.out; have := HPB.out; omega)).trans HE4.out)
  have HB5 := hid (HB34.out.trans hb)
  clear hp hf hb hpo HWH
  have cE : W5.cell? ⟨bt + 1, 0, none⟩ = some .nilIface := cell_of_row _ _ 0 _ _ _ HE5.out
  have cT : W5.cell? ⟨bt, 0, none⟩ = some (.slice none 0 0) := cell_of_row _ _ 0 _ _ _ HT5.out
  have fE := frz_row HE5.out 0
  have fT := frz_row HT5.out 0
  have p3 : W5.cell? ⟨pb, 3, none⟩ = some v := cell_of_row _ _ 3 _ _ _ HP5.out.box
  have p4 : W5.cell? ⟨pb, 4, none⟩ = some o := cell_of_row _ _ 4 _ _ _ HP5.out.box
  obtain ⟨va, vc, hvf⟩ := own_len HP5.out.parts.row
  obtain ⟨oa, oc, hof⟩ := own_form HP5.out.offs
  go_upto_region 7 with fail
  go_region
  all_goals
    go_wp2_with fail
    have HW := hid (pw_three HT5.out HE5.out (.slice none 0 0) v .nilIface)
    have HVF := hid hvf
    have HOF := hid hof
    rw [← hvf] at *
    rw [← hof] at *
    clear hvf hof cE cT fE fT p3 p4
    generalize (((W5.setCell ⟨bt, 0, none⟩ (.slice none 0 0)).setCell ⟨bt, 0, none⟩ v).setCell ⟨bt + 1, 0, none⟩ .nilIface).drew = W6 at *
    refine leaves_cons (f := 23) (args := #[.pointer (some ⟨bt + 1, 0, none⟩)]) (by simp) (by simp [go_sem]) ?_
    refine (catch_idle (bt + 1) W6).mono ?_
    rintro e u' w'' ⟨rfl, rfl, rfl⟩
    simp only [Leaves, settle]
    refine ⟨_, res_parse _ _ bt (bt + 1) v _ rfl rfl HW.out.2.1 HW.out.2.2, ?_⟩
    have h1 := Pw.below (bt := bt) (by rw [HBT.out]; exact HB2.out) HBT.out HP3.out
    have h2 : Below w.heap.size w W5 := h1.trans (HB5.out.mono (by have := h1.size; have := HPB.out; omega))
    exact ⟨Pw.below (bt := bt) h2 HBT.out HW.out.1, pb, pb, _, _, T, v, o, ks, by have := h1.size; have := HPB.out; omega, rfl, HP5.out.pw HT5.out HE5.out HW.out.1⟩
/-- What Parse answers. -/
def PaR (src : ByteArray) (w : World) (e : Ending) (w' : World) : Prop :=
  match parR src with
  | .ok s => ∃ pb B Nb tv T v o ks, w.heap.size ≤ B ∧ e = .returned (.tuple #[.agg #[v], o, .nilIface]) ∧ PM pb B Nb tv T w' s v o ks
  | .error (c, x) => ∃ N, e = .returned (.tuple #[.agg #[.slice none 0 0], .slice none 0 0, fv N]) ∧ Fli w' N c x
/-- Parse, for every source. -/
theorem parse_any (src : ByteArray) (w : World) (hv : Vars w) : Calls Tryz.prog 12 #[.string src] w fun e w' => PaR src w e w' ∧ Below w.heap.size w w' := by
  unfold PaR parR
  cases hs : (scanT src).2 with
  | some q =>
    obtain ⟨c, a⟩ := q
    exact (pfail_any src w hv c a hs).mono fun e w' h => ⟨h.2, h.1⟩
  | none =>
    cases hw : wholeP (scanT src).1 (16392) with
    | error q =>
      obtain ⟨c, x⟩ := q
      exact (ppan_any src w hv c x hs hw).mono fun e w' h => ⟨h.2, h.1⟩
    | ok q =>
      obtain ⟨u, s⟩ := q
      exact (pok_any src w hv s hs hw).mono fun e w' h => ⟨h.2, h.1⟩
end Go.Proofs.YtlhlpamciafocaaGreatDoor.L
