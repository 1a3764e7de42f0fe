import Derived.Test.YtlhlpamciafocaaGreatDoorMgAD
import Derived.Lib.AtoiAll
namespace Go.Proofs.YtlhlpamciafocaaGreatDoor.L
open Go.RowKit Go.Shelf
set_option linter.unusedVariables false
/-- The line's end from k on, or the source's. -/
def nlAt (s : ByteArray) (k : Nat) : Nat :=
  if h : k < s.size then (if bt s k = 10 then k else nlAt s (k + 1)) else k
termination_by s.size - k
theorem nlAt_yes (s : ByteArray) (k : Nat) (h : k < s.size) (c : bt s k = 10) : nlAt s k = k := by
  rw [nlAt, dif_pos h, if_pos c]
theorem nlAt_go (s : ByteArray) (k : Nat) (h : k < s.size) (c : bt s k ≠ 10) : nlAt s k = nlAt s (k + 1) := by
  rw [nlAt, dif_pos h, if_neg c]
theorem nlAt_end (s : ByteArray) (k : Nat) (h : ¬ k < s.size) : nlAt s k = k := by
  rw [nlAt, dif_neg h]
theorem drop_bt (s : ByteArray) (k : Nat) (h : k < s.size) : s.data.toList.drop k = bt s k :: s.data.toList.drop (k + 1) := by
  have h' : k < s.data.toList.length := by simpa using h
  rw [List.drop_eq_getElem_cons h']
  unfold bt
  rw [List.getD_eq_getElem?_getD, List.getElem?_eq_getElem h']
  rfl
theorem nlAt_idx (s : ByteArray) : ∀ (n k : Nat), s.size - k = n → k ≤ s.size → (Lib.indexByte (s.data.toList.drop k) 10 = -1 ∧ nlAt s k = s.size) ∨ ∃ i : Nat, Lib.indexByte (s.data.toList.drop k) 10 = i ∧ nlAt s k = k + i ∧ k + i < s.size := by
  intro n
  induction n with
  | zero =>
    intro k hn hk
    left
    rw [nlAt_end s k (by omega), List.drop_of_length_le (by simp; omega)]
    exact ⟨rfl, by omega⟩
  | succ n ih =>
    intro k hn hk
    have hlt : k < s.size := by omega
    rw [drop_bt s k hlt]
    by_cases c : bt s k = 10
    · right
      refine ⟨0, ?_, by rw [nlAt_yes s k hlt c]; rfl, by omega⟩
      unfold Lib.indexByte
      rw [if_pos (by rw [c]; rfl)]
      rfl
    · rw [nlAt_go s k hlt c]
      have e : (bt s k == 10) = false := by simpa using c
      rcases ih (k + 1) (by omega) (by omega) with ⟨h1, h2⟩ | ⟨i, h1, h2, h3⟩
      · left
        refine ⟨?_, h2⟩
        unfold Lib.indexByte
        rw [if_neg (by rw [e]; decide), h1]
        rfl
      · right
        refine ⟨i + 1, ?_, by omega, by omega⟩
        unfold Lib.indexByte
        rw [if_neg (by rw [e]; decide), h1, if_neg (by simp)]
        rfl
theorem idx_from (s : ByteArray) (k : Nat) (c : UInt8) : idx (s.extract k s.size) c = Lib.indexByte (s.data.toList.drop k) c := by
  unfold idx
  rw [ByteArray.data_extract]
  congr 1
  simp
  rw [List.take_of_length_le (by simp)]
theorem nlAt_in (s : ByteArray) (k : Nat) (h : k ≤ s.size) : k ≤ nlAt s k ∧ nlAt s k ≤ s.size := by
  rcases nlAt_idx s _ k rfl h with ⟨_, h2⟩ | ⟨i, _, h2, h3⟩
  · omega
  · omega
theorem nlAt_gt (s : ByteArray) (k : Nat) (h : k < s.size) (c : bt s k ≠ 10) : k < nlAt s k := by
  rw [nlAt_go s k h c]
  have := nlAt_in s (k + 1) (by omega)
  omega
set_option maxHeartbeats 1000000 in
theorem remark_any (s : ByteArray) (k : Nat) (w : World) (hs : s.size ≤ 4096) (hk : k < s.size) : Calls Tryz.prog 69 #[.string s, .int .i64 (k : Int)] w fun e w' => e = .returned (.int .i64 (nlAt s k)) ∧ w' = w := by
  have HI := hid (fun W => sib_any (s.extract k s.size) 10 W)
  rw [idx_from, show iv 10 = 10 from rfl] at HI
  rcases nlAt_idx s _ k rfl (by omega) with ⟨h1, h2⟩ | ⟨i, h1, h2, h3⟩
  · rw [h1] at HI
    rw [h2]
    clear h1 h2
    go_enter Tryz.func69, Tryz.ntmps69
    go_wp2_with (go_at_call 77; refine (HI.out _).mono ?_; rintro e w1 ⟨rfl, hww⟩; subst hww)
    go_ret
    exact ⟨rfl, rfl⟩
  · rw [h1] at HI
    rw [h2]
    clear h1 h2
    go_enter Tryz.func69, Tryz.ntmps69
    go_wp2_with (go_at_call 77; refine (HI.out _).mono ?_; rintro e w1 ⟨rfl, hww⟩; subst hww)
    go_ret
    exact ⟨by go_num, rfl⟩
set_option maxHeartbeats 1000000 in
theorem clone_any (s : ByteArray) (w : World) (hs : s.size ≤ 4096) : Calls Tryz.prog 96 #[.string s] w fun e w' => e = .returned (.string s) ∧ Below w.heap.size w w' := by
  have HC := hid (show Calls Tryz.prog 113 #[.string s] w _ from Any.stringslite_Clone laysM316 s w (by omega))
  go_enter Tryz.func96, Tryz.ntmps96
  go_wp2_with (go_at_call 113; refine HC.out.mono ?_; rintro e w1 ⟨rfl, l1⟩; have L1 := hid l1; clear l1)
  go_ret
  exact ⟨rfl, L1.out⟩
theorem results_cell {fn : Func} {p : Tmp} {ty : TypeId} (h : fn.results = #[.cell p ty]) (tmps : Array Value) (P : Program) (w : World) :
    (results fn tmps).run P w = ((asAddr (tmps.getD p undef)).run P w).andThen fun a w₁ => (loadVar ty a).run P w₁ := by
  simp only [results, h]
  simp [Sem.run_bind, Result.andThen]
set_option maxHeartbeats 2000000 in
theorem piece_any (kd : Nat) (s : ByteArray) (a e : Nat) (w : World) (hs : s.size ≤ 4096) (ha : a ≤ e) (he : e ≤ s.size) : Calls Tryz.prog 83 #[.int .i64 (kd : Int), .string s, .int .i64 (a : Int), .int .i64 (e : Int)] w fun x w' => x = .returned (tv ⟨kd, s.extract a e, 0, a, e⟩) ∧ Below w.heap.size w w' := by
  have hsz : (s.extract a e).size ≤ 4096 := by simp; omega
  have HC := hid (fun W => clone_any (s.extract a e) W hsz)
  have ha' : (a : Int) ≤ e := by omega
  have he' : (e : Int) ≤ s.size := by omega
  go_enter Tryz.func83, Tryz.ntmps83
  go_wp2_with fail
  have RC0 := hid (show Rc w.heap.size (w.alloc (.cells zcells 80)) from heap_alloc_new w _)
  have BL0 := hid (belowA w (.cells zcells 80))
  have hZ0 : (w.alloc (.cells zcells 80)).heap.size = w.heap.size + 1 := by simp
  unfold zcells at RC0 BL0 hZ0
  generalize w.alloc (.cells #[.int .i64 0, .string ⟨#[]⟩, .int .i64 0, .int .i64 0, .int .i64 0] 80) = W at *
  refine (HC.out _).mono ?_
  rintro x w1 ⟨rfl, l1⟩
  have R1 := hid (Rc.low RC0.out l1 (by omega))
  have B1 := hid (BL0.out.trans (l1.mono (by omega)))
  have ⟨⟨q0, q1, q2, q3, q4⟩, f0, f1, f2, f3, f4⟩ := Rc.facts R1.out
  clear l1 RC0 BL0
  go_wp2_with fail
  (try simp only [Exit.inBlock, Exit.then])
  refine bodyPost_ret (v := tv ⟨kd, s.extract a e, 0, a, e⟩) ?_ rfl ⟨rfl, below_put5 B1.out _ _ _ _ _ _ (Nat.le_refl _)⟩
  rw [results_cell rfl]
  go_simp
  rfl
/-- The place behind blanks and remarks. -/
def gapS (s : ByteArray) (k : Nat) : Nat :=
  if h : k < s.size then
    if c : bt s k = 35 then gapS s (nlAt s k)
    else if blkB (iv (bt s k)) = true then gapS s (k + 1) else k
  else k
termination_by s.size - k
decreasing_by
  · have := nlAt_gt s k h (by rw [c]; decide)
    omega
  · omega
theorem gapS_rem (s : ByteArray) (k : Nat) (h : k < s.size) (c : bt s k = 35) : gapS s k = gapS s (nlAt s k) := by
  rw [gapS, dif_pos h, dif_pos c]
theorem gapS_blk (s : ByteArray) (k : Nat) (h : k < s.size) (c : blkB (iv (bt s k)) = true) : gapS s k = gapS s (k + 1) := by
  rw [gapS, dif_pos h, dif_neg, if_pos c]
  intro e
  rw [e] at c
  exact absurd c (by decide)
theorem gapS_no (s : ByteArray) (k : Nat) (h : k < s.size) (c : bt s k ≠ 35) (d : blkB (iv (bt s k)) = false) : gapS s k = k := by
  rw [gapS, dif_pos h, dif_neg c, if_neg (by rw [d]; decide)]
theorem gapS_end (s : ByteArray) (k : Nat) (h : ¬ k < s.size) : gapS s k = k := by
  rw [gapS, dif_neg h]
theorem gapS_in (s : ByteArray) : ∀ (n k : Nat), s.size - k = n → k ≤ s.size → k ≤ gapS s k ∧ gapS s k ≤ s.size := by
  intro n
  induction n using Nat.strongRecOn with
  | ind n ih =>
    intro k hn hk
    by_cases hlt : k < s.size
    · by_cases c : bt s k = 35
      · rw [gapS_rem s k hlt c]
        have h1 := nlAt_gt s k hlt (by rw [c]; decide)
        have h2 := nlAt_in s k hk
        have := ih (s.size - nlAt s k) (by omega) _ rfl h2.2
        omega
      · cases d : blkB (iv (bt s k))
        · rw [gapS_no s k hlt c d]; omega
        · rw [gapS_blk s k hlt d]
          have := ih (s.size - (k + 1)) (by omega) _ rfl (by omega)
          omega
    · rw [gapS_end s k hlt]; omega
/-- Is it a mark of two bytes? Of one? -/
def mk2 (a b : UInt8) : Bool := (a == 38 && b == 38) || (a == 124 && b == 124) || (a == 61 && b == 61) || (a == 33 && b == 61) || (a == 60 && b == 61) || (a == 62 && b == 61)
def marks1 : ByteArray := ⟨#[33, 60, 62, 40, 41, 91, 93, 123, 125, 44, 46]⟩
def mk1 (a : UInt8) : Bool := decide (0 ≤ idx marks1 a)
/-- The mark that stands at k. -/
def markS (s : ByteArray) (k : Nat) : RR :=
  if mk2 (bt s k) (bt s (k + 1)) = true then .ok ⟨4, s.extract k (k + 2), 0, k, k + 2⟩
  else if mk1 (bt s k) = true then .ok ⟨4, s.extract k (k + 1), 0, k, k + 1⟩ else .bad 111 k
end Go.Proofs.YtlhlpamciafocaaGreatDoor.L
namespace Go.Proofs.YtlhlpamciafocaaGreatDoor.L
open Go.RowKit Go.Shelf
set_option linter.unusedVariables false
theorem two_list (s : ByteArray) (k : Nat) (h : k + 2 ≤ s.size) : (s.extract k (k + 2)).toList = [bt s k, bt s (k + 1)] := by
  rw [ByteArray.toList_eq, ByteArray.data_extract]
  have h1 := drop_bt s k (by omega)
  have h2 := drop_bt s (k + 1) (by omega)
  simp
  rw [h1, h2]
  rfl
set_option maxHeartbeats 4000000 in
theorem rmark_two (s : ByteArray) (k : Nat) (w : World) (hs : s.size ≤ 4096) (hk : k < s.size) (h : mk2 (bt s k) (bt s (k + 1)) = true) :
    Calls Tryz.prog 85 #[.string s, .int .i64 (k : Int)] w fun e w' => Rd (.ok ⟨4, s.extract k (k + 2), 0, k, k + 2⟩) w e w' := by
  have h2 : k + 2 ≤ s.size := by
    have : bt s (k + 1) ≠ 0 := by
      intro e
      rw [e] at h
      unfold mk2 at h
      simp at h
    have := bt_nz this
    omega
  have ht := two_list s k h2
  have HP := hid (fun W => piece_any 4 s k (k + 2) W hs (by omega) h2)
  rw [show ((k + 2 : Nat) : Int) = (k : Int) + 2 by omega] at HP
  have h2' : (k : Int) + 2 ≤ s.size := by omega
  unfold tv at HP
  have hc : (bt s k = 38 ∧ bt s (k + 1) = 38) ∨ (bt s k = 124 ∧ bt s (k + 1) = 124) ∨ (bt s k = 61 ∧ bt s (k + 1) = 61) ∨ (bt s k = 33 ∧ bt s (k + 1) = 61) ∨ (bt s k = 60 ∧ bt s (k + 1) = 61) ∨ (bt s k = 62 ∧ bt s (k + 1) = 61) := by
    unfold mk2 at h
    simp only [Bool.or_eq_true, Bool.and_eq_true, beq_iff_eq] at h
    rcases h with ((((h | h) | h) | h) | h) | h
    · exact Or.inl h
    · exact Or.inr (Or.inl h)
    · exact Or.inr (Or.inr (Or.inl h))
    · exact Or.inr (Or.inr (Or.inr (Or.inl h)))
    · exact Or.inr (Or.inr (Or.inr (Or.inr (Or.inl h))))
    · exact Or.inr (Or.inr (Or.inr (Or.inr (Or.inr h))))
  clear h
  rcases hc with ⟨e1, e2⟩ | ⟨e1, e2⟩ | ⟨e1, e2⟩ | ⟨e1, e2⟩ | ⟨e1, e2⟩ | ⟨e1, e2⟩ <;>
  · rw [e1, e2] at ht
    clear e1 e2
    go_enter Tryz.func85, Tryz.ntmps85
    go_wp2_with fail
    have RC0 := hid (show Rc w.heap.size (w.alloc (.cells zcells 80)) from heap_alloc_new w _)
    have BL0 := hid (belowA w (.cells zcells 80))
    have hZ0 : (w.alloc (.cells zcells 80)).heap.size = w.heap.size + 1 := by simp
    unfold zcells at RC0 BL0 hZ0
    generalize w.alloc (.cells #[.int .i64 0, .string ⟨#[]⟩, .int .i64 0, .int .i64 0, .int .i64 0] 80) = W at *
    refine (HP.out _).mono ?_
    rintro x w1 ⟨rfl, l1⟩
    have R1 := hid (Rc.low RC0.out l1 (by omega))
    have B1 := hid (BL0.out.trans (l1.mono (by omega)))
    have ⟨⟨q0, q1, q2, q3, q4⟩, f0, f1, f2, f3, f4⟩ := Rc.facts R1.out
    clear l1 RC0 BL0
    go_wp2_with fail
    (try simp only [Exit.inBlock, Exit.then])
    refine bodyPost_ret (v := .tuple #[tv ⟨4, s.extract k (k + 2), 0, k, k + 2⟩, .nilIface]) ?_ rfl ⟨rfl, below_put5 B1.out _ _ _ _ _ _ (Nat.le_refl _)⟩
    rw [results_cell_tmp rfl]
    go_simp
    rfl
theorem mk2_no {a b : UInt8} (h : mk2 a b = false) : ([38, 38] == [a, b]) = false ∧ ([124, 124] == [a, b]) = false ∧ ([61, 61] == [a, b]) = false ∧ ([33, 61] == [a, b]) = false ∧ ([60, 61] == [a, b]) = false ∧ ([62, 61] == [a, b]) = false := by
  unfold mk2 at h
  simp at h ⊢
  obtain ⟨⟨⟨⟨⟨h1, h2⟩, h3⟩, h4⟩, h5⟩, h6⟩ := h
  exact ⟨fun e e' => h1 e.symm e'.symm, fun e e' => h2 e.symm e'.symm, fun e e' => h3 e.symm e'.symm, fun e e' => h4 e.symm e'.symm, fun e e' => h5 e.symm e'.symm, fun e e' => h6 e.symm e'.symm⟩
theorem mk2_no' {a b : UInt8} (h : mk2 a b = false) : ([a, b] == [38, 38]) = false ∧ ([a, b] == [124, 124]) = false ∧ ([a, b] == [61, 61]) = false ∧ ([a, b] == [33, 61]) = false ∧ ([a, b] == [60, 61]) = false ∧ ([a, b] == [62, 61]) = false := by
  unfold mk2 at h
  simp at h ⊢
  obtain ⟨⟨⟨⟨⟨h1, h2⟩, h3⟩, h4⟩, h5⟩, h6⟩ := h
  exact ⟨h1, h2, h3, h4, h5, h6⟩
set_option maxHeartbeats 4000000 in
theorem rmark_not (s : ByteArray) (k : Nat) (w : World) (hs : s.size ≤ 4096) (hk : k < s.size) (h : mk2 (bt s k) (bt s (k + 1)) = false) :
    Calls Tryz.prog 85 #[.string s, .int .i64 (k : Int)] w fun e w' => Rd (if mk1 (bt s k) = true then .ok ⟨4, s.extract k (k + 1), 0, k, k + 1⟩ else .bad 111 k) w e w' := by
  have HI := hid (fun W => sib_any marks1 (bt s k) W)
  have HP := hid (fun W => piece_any 4 s k (k + 1) W hs (by omega) (by omega))
  rw [show ((k + 1 : Nat) : Int) = (k : Int) + 1 by omega] at HP
  have HF := hid (fun W => fault_any 111 k W)
  unfold fv at HF
  unfold tv at HP
  have hb := iv_get s k hk
  have hi := idx_cases marks1 (bt s k)
  unfold mk1
  obtain ⟨r, hr⟩ : ∃ r, idx marks1 (bt s k) = r := ⟨_, rfl⟩
  rw [hr] at HI hi ⊢
  obtain ⟨x, hx⟩ : ∃ x, iv (bt s k) = x := ⟨_, rfl⟩
  rw [hx] at HI hb
  unfold marks1 at HI
  have hm := mk2_no' h
  have hm2 := mk2_no h
  clear h hr hx
  by_cases h2 : k + 2 ≤ s.size
  · have ht := two_list s k h2
    have h2' : (k : Int) + 2 ≤ s.size := by omega
    obtain ⟨m1, m2, m3, m4, m5, m6⟩ := hm
    generalize bt s k = a at *
    generalize bt s (k + 1) = b at *
    by_cases c : 0 ≤ r
    · rw [if_pos (by simpa using c)]
      have c' : ¬ r < 0 := by omega
      go_enter Tryz.func85, Tryz.ntmps85
      go_wp2_with (go_at_call 77; refine (HI.out _).mono ?_; rintro e w1 ⟨rfl, hww⟩; have hw2 := hww.symm; clear hww; subst hw2)
      have RC0 := hid (show Rc w.heap.size (w.alloc (.cells zcells 80)) from heap_alloc_new w _)
      have BL0 := hid (belowA w (.cells zcells 80))
      have hZ0 : (w.alloc (.cells zcells 80)).heap.size = w.heap.size + 1 := by simp
      unfold zcells at RC0 BL0 hZ0
      generalize w.alloc (.cells #[.int .i64 0, .string ⟨#[]⟩, .int .i64 0, .int .i64 0, .int .i64 0] 80) = W at *
      refine (HP.out _).mono ?_
      rintro x w1 ⟨rfl, l1⟩
      have R1 := hid (Rc.low RC0.out l1 (by omega))
      have B1 := hid (BL0.out.trans (l1.mono (by omega)))
      have ⟨⟨q0, q1, q2, q3, q4⟩, f0, f1, f2, f3, f4⟩ := Rc.facts R1.out
      clear l1 RC0 BL0
      go_wp2_with fail
      (try simp only [Exit.inBlock, Exit.then])
      refine bodyPost_ret (v := .tuple #[tv ⟨4, s.extract k (k + 1), 0, k, k + 1⟩, .nilIface]) ?_ rfl ⟨rfl, below_put5 B1.out _ _ _ _ _ _ (Nat.le_refl _)⟩
      rw [results_cell_tmp rfl]
      go_simp
      rfl
    · rw [if_neg (by simpa using c)]
      have c' : r < 0 := by omega
      go_enter Tryz.func85, Tryz.ntmps85
      go_wp2_with (go_at_call 77; refine (HI.out _).mono ?_; rintro e w1 ⟨rfl, hww⟩; have hw2 := hww.symm; clear hww; subst hw2)
      have RC0 := hid (show Rc w.heap.size (w.alloc (.cells zcells 80)) from heap_alloc_new w _)
      have BL0 := hid (belowA w (.cells zcells 80))
      have hZ0 : (w.alloc (.cells zcells 80)).heap.size = w.heap.size + 1 := by simp
      unfold zcells at RC0 BL0 hZ0
      generalize w.alloc (.cells #[.int .i64 0, .string ⟨#[]⟩, .int .i64 0, .int .i64 0, .int .i64 0] 80) = W at *
      refine (HF.out _).mono ?_
      rintro x w1 ⟨rfl, f1, l1⟩
      have R1 := hid (Rc.low RC0.out l1 (by omega))
      have B1 := hid (BL0.out.trans (l1.mono (by omega)))
      have F1 := hid f1
      clear f1
      have ⟨⟨q0, q1, q2, q3, q4⟩, f0, f1, f2, f3, f4⟩ := Rc.facts R1.out
      clear l1 RC0 BL0
      go_wp2_with fail
      (try simp only [Exit.inBlock, Exit.then])
      refine bodyPost_ret (v := .tuple #[tv tok0, fv W.heap.size]) ?_ rfl ⟨_, rfl, F1.out.put5 _ _ _ _ _ _ (by omega), by omega, below_put5 B1.out _ _ _ _ _ _ (Nat.le_refl _)⟩
      rw [results_cell_tmp rfl]
      go_simp
      exact ⟨rfl, rfl⟩
  · have h2' : ¬ (k : Int) + 2 ≤ s.size := by omega
    clear hm hm2
    generalize bt s k = a at *
    by_cases c : 0 ≤ r
    · rw [if_pos (by simpa using c)]
      have c' : ¬ r < 0 := by omega
      go_enter Tryz.func85, Tryz.ntmps85
      go_wp2_with (go_at_call 77; refine (HI.out _).mono ?_; rintro e w1 ⟨rfl, hww⟩; have hw2 := hww.symm; clear hww; subst hw2)
      have RC0 := hid (show Rc w.heap.size (w.alloc (.cells zcells 80)) from heap_alloc_new w _)
      have BL0 := hid (belowA w (.cells zcells 80))
      have hZ0 : (w.alloc (.cells zcells 80)).heap.size = w.heap.size + 1 := by simp
      unfold zcells at RC0 BL0 hZ0
      generalize w.alloc (.cells #[.int .i64 0, .string ⟨#[]⟩, .int .i64 0, .int .i64 0, .int .i64 0] 80) = W at *
      refine (HP.out _).mono ?_
      rintro x w1 ⟨rfl, l1⟩
      have R1 := hid (Rc.low RC0.out l1 (by omega))
      have B1 := hid (BL0.out.trans (l1.mono (by omega)))
      have ⟨⟨q0, q1, q2, q3, q4⟩, f0, f1, f2, f3, f4⟩ := Rc.facts R1.out
      clear l1 RC0 BL0
      go_wp2_with fail
      (try simp only [Exit.inBlock, Exit.then])
      refine bodyPost_ret (v := .tuple #[tv ⟨4, s.extract k (k + 1), 0, k, k + 1⟩, .nilIface]) ?_ rfl ⟨rfl, below_put5 B1.out _ _ _ _ _ _ (Nat.le_refl _)⟩
      rw [results_cell_tmp rfl]
      go_simp
      rfl
    · rw [if_neg (by simpa using c)]
      have c' : r < 0 := by omega
      go_enter Tryz.func85, Tryz.ntmps85
      go_wp2_with (go_at_call 77; refine (HI.out _).mono ?_; rintro e w1 ⟨rfl, hww⟩; have hw2 := hww.symm; clear hww; subst hw2)
      have RC0 := hid (show Rc w.heap.size (w.alloc (.cells zcells 80)) from heap_alloc_new w _)
      have BL0 := hid (belowA w (.cells zcells 80))
      have hZ0 : (w.alloc (.cells zcells 80)).heap.size = w.heap.size + 1 := by simp
      unfold zcells at RC0 BL0 hZ0
      generalize w.alloc (.cells #[.int .i64 0, .string ⟨#[]⟩, .int .i64 0, .int .i64 0, .int .i64 0] 80) = W at *
      refine (HF.out _).mono ?_
      rintro x w1 ⟨rfl, f1, l1⟩
      have R1 := hid (Rc.low RC0.out l1 (by omega))
      have B1 := hid (BL0.out.trans (l1.mono (by omega)))
      have F1 := hid f1
      clear f1
      have ⟨⟨q0, q1, q2, q3, q4⟩, f0, f1, f2, f3, f4⟩ := Rc.facts R1.out
      clear l1 RC0 BL0
      go_wp2_with fail
      (try simp only [Exit.inBlock, Exit.then])
      refine bodyPost_ret (v := .tuple #[tv tok0, fv W.heap.size]) ?_ rfl ⟨_, rfl, F1.out.put5 _ _ _ _ _ _ (by omega), by omega, below_put5 B1.out _ _ _ _ _ _ (Nat.le_refl _)⟩
      rw [results_cell_tmp rfl]
      go_simp
      exact ⟨rfl, rfl⟩
theorem rmark_any (s : ByteArray) (k : Nat) (w : World) (hs : s.size ≤ 4096) (hk : k < s.size) : Calls Tryz.prog 85 #[.string s, .int .i64 (k : Int)] w fun e w' => Rd (markS s k) w e w' := by
  unfold markS
  cases h : mk2 (bt s k) (bt s (k + 1))
  · rw [if_neg (by decide)]
    exact rmark_not s k w hs hk h
  · rw [if_pos rfl]
    exact rmark_two s k w hs hk h
end Go.Proofs.YtlhlpamciafocaaGreatDoor.L
namespace Go.Proofs.YtlhlpamciafocaaGreatDoor.L
open Go.RowKit Go.Shelf
set_option linter.unusedVariables false
/-- What the package-level variables on the road hold. -/
structure Vars (w : World) : Prop where
  syn : ∃ tp p, w.var? Tryz.prog "strconv.ErrSyntax" = some #[.iface tp p]
  rng : ∃ tp p, w.var? Tryz.prog "strconv.ErrRange" = some #[.iface tp p]
theorem var_low {w w' : World} {name : String} {x : Array Value} (h : w.var? Tryz.prog name = some x) (hb : Below w.heap.size w w') : w'.var? Tryz.prog name = some x := by
  unfold World.var? at h ⊢
  cases e : Tryz.prog.globalNamed name with
  | none => rw [e] at h; cases h
  | some g =>
    rw [e] at h
    simp only [Option.bind_some] at h ⊢
    have hlt : g < w.heap.size := by
      apply Classical.byContradiction
      intro n
      rw [Array.getElem?_eq_none (by omega)] at h
      cases h
    rw [hb.block g hlt]
    exact h
theorem Vars.low {w w' : World} (h : Vars w) (hb : Below w.heap.size w w') : Vars w' := by
  obtain ⟨⟨t1, p1, b⟩, ⟨t2, p2, c⟩⟩ := h
  exact ⟨⟨t1, p1, var_low b hb⟩, ⟨t2, p2, var_low c hb⟩⟩
theorem atoi_ok (s : ByteArray) (hs : s.size ≤ 4096) (n : Int) (h : Lib.atoiAll s.data.toList = .ok n) (w : World) : Calls Tryz.prog 112 #[.string s] w fun e w' => e = .returned (.tuple #[.int .i64 n, .nilIface]) ∧ Below w.heap.size w w' := by
  refine (show Calls Tryz.prog 112 _ _ _ from Any.strconv_Atoi_ok laysC172 s (by omega) n h w).mono ?_
  rintro e w' ⟨rfl, rfl | ⟨t, rfl⟩⟩
  · exact ⟨rfl, Below.refl _ _⟩
  · exact ⟨rfl, Lib.bytesWorld_below w 5 t⟩
theorem atoi_bad (s : ByteArray) (hs : s.size ≤ 4096) (h : ∀ n, Lib.atoiAll s.data.toList ≠ .ok n) (w : World) (hv : Vars w) : Calls Tryz.prog 112 #[.string s] w fun e w' => ∃ n t N, e = .returned (.tuple #[.int .i64 n, .iface t (.pointer (some ⟨N, 0, none⟩))]) ∧ Below w.heap.size w w' := by
  cases e : Lib.atoiAll s.data.toList with
  | ok n => exact absurd e (h n)
  | «syntax» =>
    obtain ⟨tp, p, hvar⟩ := hv.syn
    refine (show Calls Tryz.prog 112 _ _ _ from Any.strconv_Atoi_syntax_var laysC172 s (by omega) e tp p w hvar).mono ?_
    rintro e w' ⟨N, rfl, _, _, hb⟩
    exact ⟨_, _, N, rfl, hb⟩
  | range =>
    obtain ⟨tp, p, hvar⟩ := hv.rng
    refine (show Calls Tryz.prog 112 _ _ _ from Any.strconv_Atoi_range_var laysC172 s (by omega) e tp p w hvar).mono ?_
    rintro e w' ⟨N, rfl, _, _, hb⟩
    exact ⟨_, _, N, rfl, hb⟩
def allD (l : List UInt8) : Bool := l.all fun c => digB (iv c)
def valF (n : Nat) (l : List UInt8) : Nat := l.foldl (fun n c => n * 10 + (c.toNat - 48)) n
theorem dig_nat (c : UInt8) : digB (iv c) = true ↔ 48 ≤ c.toNat ∧ c.toNat ≤ 57 := by
  unfold digB iv
  simp
  omega
theorem parse_bad : ∀ (l : List UInt8) (acc u : Nat), allD l = false → Lib.parseUint10 acc l ≠ .ok u
  | [], acc, u, h => by simp [allD] at h
  | c :: r, acc, u, h => by
    unfold Lib.parseUint10
    by_cases d : digB (iv c) = true
    · have h' : allD r = false := by simpa [allD, d] using h
      rw [if_pos ((dig_nat c).1 d)]
      split
      · intro e; cases e
      · split
        · intro e; cases e
        · exact parse_bad r _ u h'
    · rw [if_neg (fun x => d ((dig_nat c).2 x))]
      intro e; cases e
theorem parse_good : ∀ (l : List UInt8) (acc : Nat), allD l = true → acc < 10 ^ (18 - l.length) → l.length ≤ 18 → Lib.parseUint10 acc l = .ok (valF acc l) ∧ valF acc l < 10 ^ 18
  | [], acc, h, ha, hl => ⟨rfl, by simpa [valF] using ha⟩
  | c :: r, acc, h, ha, hl => by
    have hd : digB (iv c) = true ∧ allD r = true := by simpa [allD] using h
    have hc := (dig_nat c).1 hd.1
    simp only [List.length_cons] at ha hl
    have hp : 10 ^ (18 - r.length) = 10 * 10 ^ (18 - (r.length + 1)) := by
      rw [show 18 - r.length = (18 - (r.length + 1)) + 1 by omega, Nat.pow_succ, Nat.mul_comm]
    have hb : 10 ^ (18 - (r.length + 1)) ≤ 10 ^ 17 := Nat.pow_le_pow_right (by decide) (by omega)
    have ih := parse_good r (acc * 10 + (c.toNat - 48)) hd.2 (by omega) (by omega)
    unfold Lib.parseUint10
    rw [if_pos hc, if_neg (by omega), if_neg (by omega)]
    exact ih
/-- The digits behind the sign. -/
def dgs (t : ByteArray) : List UInt8 := if bt t 0 = 45 then t.data.toList.drop 1 else t.data.toList
/-- The number that a text writes. -/
def numS (t : ByteArray) : Option Int :=
  if dgs t = [48] then (if bt t 0 = 45 then none else some 0)
  else if 18 < (dgs t).length ∨ (dgs t).head? = some 48 ∨ dgs t = [] ∨ allD (dgs t) = false then none
  else some (if bt t 0 = 45 then -(valF 0 (dgs t) : Int) else valF 0 (dgs t))
theorem bt_cons {t : ByteArray} (h : t.size ≠ 0) : ∃ r, t.data.toList = bt t 0 :: r := by
  have := drop_bt t 0 (by omega)
  exact ⟨_, by simpa using this⟩
theorem atoi_num (t : ByteArray) (h0 : t.size ≠ 0) (h43 : bt t 0 ≠ 43) (h1 : dgs t ≠ []) (h2 : (dgs t).length ≤ 18) :
    (allD (dgs t) = true → Lib.atoiAll t.data.toList = .ok (if bt t 0 = 45 then -(valF 0 (dgs t) : Int) else valF 0 (dgs t))) ∧ (allD (dgs t) = false → ∀ n, Lib.atoiAll t.data.toList ≠ .ok n) := by
  obtain ⟨r, hr⟩ := bt_cons h0
  have n43 : (bt t 0).toNat ≠ 43 := fun e => h43 (UInt8.toNat_inj.1 e)
  have hm : Lib.atoiAll t.data.toList = match Lib.parseMag (dgs t) with
      | .syntax => .syntax
      | .range => .range
      | .ok u => if ¬ (bt t 0).toNat = 45 ∧ 9223372036854775808 ≤ u then .range else if (bt t 0).toNat = 45 ∧ 9223372036854775808 < u then .range else .ok (if (bt t 0).toNat = 45 then -(u : Int) else u) := by
    unfold dgs
    rw [hr]
    unfold Lib.atoiAll
    by_cases c : bt t 0 = 45
    · have c' : (bt t 0).toNat = 45 := by rw [c]; rfl
      simp only [c, if_true, List.drop_succ_cons, List.drop_zero]
      rfl
    · have c' : (bt t 0).toNat ≠ 45 := fun e => c (UInt8.toNat_inj.1 e)
      simp only [c, c', n43, if_false, or_false]
      cases Lib.parseMag (bt t 0 :: r) <;> rfl
  have hp : Lib.parseMag (dgs t) = Lib.parseUint10 0 (dgs t) := by unfold Lib.parseMag; rw [if_neg h1]
  rw [hp] at hm
  refine ⟨fun ha => ?_, fun ha n => ?_⟩
  · obtain ⟨e1, e2⟩ := parse_good (dgs t) 0 ha (Nat.pow_pos (by decide)) h2
    rw [e1] at hm
    rw [hm]
    simp only
    rw [if_neg (by omega), if_neg (by omega)]
    by_cases c : bt t 0 = 45
    · have c' : (bt t 0).toNat = 45 := by rw [c]; rfl
      rw [if_pos c', if_pos c]
    · have c' : (bt t 0).toNat ≠ 45 := fun e => c (UInt8.toNat_inj.1 e)
      rw [if_neg c', if_neg c]
  · rw [hm]
    cases hx : Lib.parseUint10 0 (dgs t) with
    | ok u => exact absurd hx (parse_bad _ _ _ ha)
    | «syntax» => intro e; cases e
    | range => intro e; cases e
theorem one_list (t : ByteArray) (h : 1 ≤ t.size) : (t.extract 0 1).toList = [bt t 0] := by
  rw [ByteArray.toList_eq, ByteArray.data_extract]
  have h1 := drop_bt t 0 (by omega)
  simp at h1 ⊢
  rw [h1]
  rfl
set_option maxHeartbeats 2000000 in
theorem hasp_any (t : ByteArray) (c : UInt8) (w : World) (hs : t.size ≤ 4096) (hc : c ≠ 0) : Calls Tryz.prog 125 #[.string t, .string ⟨#[c]⟩] w fun e w' => e = .returned (.bool (bt t 0 == c)) ∧ w' = w := by
  have hc1 : (⟨#[c]⟩ : ByteArray).size = 1 := rfl
  have hc2 : (⟨#[c]⟩ : ByteArray).toList = [c] := by rw [ByteArray.toList_eq]
  by_cases h : 1 ≤ t.size
  · have ht := one_list t h
    have h' : (1 : Int) ≤ t.size := by omega
    cases hb : (bt t 0 == c)
    · have n1 : ([bt t 0] == [c]) = false := by simpa using hb
      generalize bt t 0 = b at *
      go_enter Tryz.func125, Tryz.ntmps125
      go_wp2
      go_ret
      exact ⟨rfl, rfl⟩
    · have n1 : ([bt t 0] == [c]) = true := by simpa using hb
      generalize bt t 0 = b at *
      go_enter Tryz.func125, Tryz.ntmps125
      go_wp2
      go_ret
      exact ⟨rfl, rfl⟩
  · have h' : ¬ (1 : Int) ≤ t.size := by omega
    have hb : (bt t 0 == c) = false := by
      rw [bt_out t 0 (by omega)]
      simpa using fun e : (0 : UInt8) = c => hc e.symm
    rw [hb]
    go_enter Tryz.func125, Tryz.ntmps125
    go_wp2
    go_ret
    exact ⟨rfl, rfl⟩
set_option maxHeartbeats 2000000 in
theorem shasp_any (t : ByteArray) (c : UInt8) (w : World) (hs : t.size ≤ 4096) (hc : c ≠ 0) : Calls Tryz.prog 111 #[.string t, .string ⟨#[c]⟩] w fun e w' => e = .returned (.bool (bt t 0 == c)) ∧ w' = w := by
  have HI := hid (fun W => hasp_any t c W hs hc)
  generalize (bt t 0 == c) = b at *
  go_enter Tryz.func111, Tryz.ntmps111
  go_wp2_with (go_at_call 125; refine (HI.out _).mono ?_; rintro e w1 ⟨rfl, hww⟩; subst hww)
  go_ret
  exact ⟨rfl, rfl⟩
/-- What stands behind the sign, as a text. -/
def dgT (t : ByteArray) : ByteArray := if bt t 0 = 45 then t.extract 1 t.size else t
theorem dgT_list (t : ByteArray) : (dgT t).data.toList = dgs t := by
  unfold dgT dgs
  split
  · rw [ByteArray.data_extract]
    simp
    rw [List.take_of_length_le (by simp)]
  · rfl
theorem dgT_size (t : ByteArray) : (dgT t).size ≤ t.size := by
  unfold dgT
  split
  · simp
  · exact Nat.le_refl _
set_option maxHeartbeats 2000000 in
theorem cutp_any (t : ByteArray) (w : World) (hs : t.size ≤ 4096) : Calls Tryz.prog 124 #[.string t, .string ⟨#[45]⟩] w fun e w' => e = .returned (.tuple #[.string (dgT t), .bool (bt t 0 == 45)]) ∧ w' = w := by
  have HI := hid (fun W => hasp_any t 45 W hs (by decide))
  unfold dgT
  by_cases c : bt t 0 = 45
  · have h1 : 1 ≤ t.size := bt_nz (by rw [c]; decide)
    have h1' : (1 : Int) ≤ t.size := by omega
    rw [if_pos c]
    rw [show (bt t 0 == 45) = true by simpa using c] at HI ⊢
    go_enter Tryz.func124, Tryz.ntmps124
    go_wp2_with (go_at_call 125; refine (HI.out _).mono ?_; rintro e w1 ⟨rfl, hww⟩; subst hww)
    go_ret2
    exact ⟨rfl, rfl⟩
  · rw [if_neg c]
    rw [show (bt t 0 == 45) = false by simpa using c] at HI ⊢
    go_enter Tryz.func124, Tryz.ntmps124
    go_wp2_with (go_at_call 125; refine (HI.out _).mono ?_; rintro e w1 ⟨rfl, hww⟩; subst hww)
    go_ret2
    exact ⟨rfl, rfl⟩
set_option maxHeartbeats 2000000 in
theorem scutp_any (t : ByteArray) (w : World) (hs : t.size ≤ 4096) : Calls Tryz.prog 110 #[.string t, .string ⟨#[45]⟩] w fun e w' => e = .returned (.tuple #[.string (dgT t), .bool (bt t 0 == 45)]) ∧ w' = w := by
  have HI := hid (fun W => cutp_any t W hs)
  generalize (bt t 0 == 45) = b at *
  generalize dgT t = d at *
  go_enter Tryz.func110, Tryz.ntmps110
  go_wp2_with (go_at_call 124; refine (HI.out _).mono ?_; rintro e w1 ⟨rfl, hww⟩; subst hww)
  go_ret2
  exact ⟨rfl, rfl⟩
/-- What number answers. -/
def NumIs (r : Option Int) (w : World) (e : Ending) (w' : World) : Prop :=
  match r with
  | some n => e = .returned (.tuple #[.int .i64 n, .bool true]) ∧ Below w.heap.size w w'
  | none => ∃ n, e = .returned (.tuple #[.int .i64 n, .bool false]) ∧ Below w.heap.size w w'
end Go.Proofs.YtlhlpamciafocaaGreatDoor.L
namespace Go.Proofs.YtlhlpamciafocaaGreatDoor.L
open Go.RowKit Go.Shelf
set_option linter.unusedVariables false
theorem bt_head (t : ByteArray) (l : List UInt8) (h : t.data.toList = l) (c : UInt8) (hc : c ≠ 0) : (bt t 0 == c) = decide (l.head? = some c) := by
  unfold bt
  rw [h]
  cases l with
  | nil => simp; exact fun e => hc e.symm
  | cons x r =>
    show (x == c) = _
    cases e : (x == c)
    · exact (decide_eq_false (by simpa using e)).symm
    · exact (decide_eq_true (by simpa using e)).symm
set_option maxHeartbeats 4000000 in
theorem number_any (t : ByteArray) (w : World) (hs : t.size ≤ 4096) (h43 : bt t 0 ≠ 43) (h0 : t.size ≠ 0) (hd : dgs t ≠ []) (hv : Vars w) :
    Calls Tryz.prog 95 #[.string t] w fun e w' => NumIs (numS t) w e w' := by
  have HC := hid (fun W => scutp_any t W hs)
  have HH := hid (fun W => shasp_any (dgT t) 48 W (Nat.le_trans (dgT_size t) hs) (by decide))
  rw [bt_head (dgT t) (dgs t) (dgT_list t) 48 (by decide)] at HH
  have hl : (dgT t).toList = dgs t := by rw [ByteArray.toList_eq, dgT_list]
  have hz : (dgT t).size = (dgs t).length := by rw [← dgT_list]; simp
  have AN := hid (atoi_num t h0 h43 hd)
  have AO := hid (fun (n : Int) (h : Lib.atoiAll t.data.toList = .ok n) (W : World) => atoi_ok t hs n h W)
  have AB := hid (fun (h : ∀ n, Lib.atoiAll t.data.toList ≠ .ok n) => atoi_bad t hs h w hv)
  obtain ⟨R, hR⟩ : ∃ R, numS t = R := ⟨_, rfl⟩
  rw [hR]
  unfold numS at hR
  generalize dgT t = D at *
  generalize dgs t = L at *
  clear h43
  by_cases c1 : L = [48]
  · rw [if_pos c1] at hR
    subst c1
    have e1 : (([48] : List UInt8) == [48]) = true := by decide
    by_cases c45 : bt t 0 = 45
    · rw [if_pos c45] at hR
      rw [show (bt t 0 == 45) = true by simpa using c45] at HC
      subst hR
      go_enter Tryz.func95, Tryz.ntmps95
      go_wp2_with (go_at_call 110; refine (HC.out _).mono ?_; rintro e w1 ⟨rfl, hww⟩; have hw2 := hww.symm; clear hww; subst hw2)
      go_ret2
      exact ⟨_, rfl, Below.refl _ _⟩
    · rw [if_neg c45] at hR
      rw [show (bt t 0 == 45) = false by simpa using c45] at HC
      subst hR
      go_enter Tryz.func95, Tryz.ntmps95
      go_wp2_with (go_at_call 110; refine (HC.out _).mono ?_; rintro e w1 ⟨rfl, hww⟩; have hw2 := hww.symm; clear hww; subst hw2)
      go_ret2
      exact ⟨rfl, Below.refl _ _⟩
  · rw [if_neg c1] at hR
    generalize (bt t 0 == 45) = m at *
    have e1 : (L == [48]) = false := by simpa using c1
    have e1' : ([48] == L) = false := by simpa using fun e : [48] = L => c1 e.symm
    by_cases c2 : 18 < L.length
    · rw [if_pos (Or.inl c2)] at hR
      subst hR
      have c2' : (18 : Int) < L.length := by omega
      go_enter Tryz.func95, Tryz.ntmps95
      go_wp2_with (go_at_call 110; refine (HC.out _).mono ?_; rintro e w1 ⟨rfl, hww⟩; have hw2 := hww.symm; clear hww; subst hw2)
      go_ret2
      exact ⟨_, rfl, Below.refl _ _⟩
    · have c2' : ¬ (18 : Int) < L.length := by omega
      by_cases c3 : L.head? = some 48
      · rw [if_pos (Or.inr (Or.inl c3))] at hR
        subst hR
        rw [decide_eq_true c3] at HH
        go_enter Tryz.func95, Tryz.ntmps95
        go_wp2_with (first | (go_at_call 110; refine (HC.out _).mono ?_; rintro e w1 ⟨rfl, hww⟩; have hw2 := hww.symm; clear hww; subst hw2) | (go_at_call 111; refine (HH.out _).mono ?_; rintro e w1 ⟨rfl, hww⟩; have hw2 := hww.symm; clear hww; subst hw2))
        go_ret2
        exact ⟨_, rfl, Below.refl _ _⟩
      · rw [decide_eq_false c3] at HH
        have AN2 := hid (AN.out (by omega))
        cases c4 : allD L
        · rw [if_pos (Or.inr (Or.inr (Or.inr c4)))] at hR
          subst hR
          have HA := hid (AB.out (AN2.out.2 c4))
          clear AN AN2 AO AB
          go_enter Tryz.func95, Tryz.ntmps95
          go_wp2_with (first | (go_at_call 110; refine (HC.out _).mono ?_; rintro e w1 ⟨rfl, hww⟩; have hw2 := hww.symm; clear hww; subst hw2) | (go_at_call 111; refine (HH.out _).mono ?_; rintro e w1 ⟨rfl, hww⟩; have hw2 := hww.symm; clear hww; subst hw2) | (go_at_call 112; refine HA.out.mono ?_; rintro e w1 ⟨n, ty, N, rfl, l1⟩; have L1 := hid l1; clear l1))
          go_quiet (fail)
          go_wp2
          go_ret2
          exact ⟨_, rfl, below_drewN L1.out _⟩
        · rw [if_neg (by rw [c4]; simp [hd, c3]; omega)] at hR
          subst hR
          have HA := hid (fun W => AO.out _ (AN2.out.1 c4) W)
          clear AN AN2 AO AB
          generalize (if bt t 0 = 45 then -(valF 0 L : Int) else (valF 0 L : Int)) = n at *
          go_enter Tryz.func95, Tryz.ntmps95
          go_wp2_with (first | (go_at_call 110; refine (HC.out _).mono ?_; rintro e w1 ⟨rfl, hww⟩; have hw2 := hww.symm; clear hww; subst hw2) | (go_at_call 111; refine (HH.out _).mono ?_; rintro e w1 ⟨rfl, hww⟩; have hw2 := hww.symm; clear hww; subst hw2) | (go_at_call 112; refine (HA.out _).mono ?_; rintro e w1 ⟨rfl, l1⟩; have L1 := hid l1; clear l1))
          go_quiet (fail)
          go_wp2
          go_ret2
          exact ⟨rfl, below_drewN L1.out _⟩
end Go.Proofs.YtlhlpamciafocaaGreatDoor.L
