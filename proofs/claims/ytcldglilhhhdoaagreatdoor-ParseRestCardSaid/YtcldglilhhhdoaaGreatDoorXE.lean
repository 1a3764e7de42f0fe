import Derived.Test.YtcldglilhhhdoaaGreatDoorXD
namespace Go.Proofs.YtcldglilhhhdoaaGreatDoor.L
open Go.RowKit Go.Shelf
set_option linter.unusedVariables false
theorem two_list (s : ByteArray) (k : Nat) (h : k + 2 ≤ s.size) : (s.extract k (k + 2)).toList = [bt s k, bt s (k + 1)] := by
  rw [ByteArray.toList_eq, ByteArray.data_extract]
  have h1 := drop_bt s k (by omega)
  have h2 := drop_bt s (k + 1) (by omega)
  simp
  rw [h1, h2]
  rfl
set_option maxHeartbeats 4000000 in
theorem rmark_two (s : ByteArray) (k : Nat) (w : World) (hs : s.size ≤ 4096) (hk : k < s.size) (h : mk2 (bt s k) (bt s (k + 1)) = true) :
    Calls Tryz.prog 90 #[.string s, .int .i64 (k : Int)] w fun e w' => Rd (.ok ⟨4, s.extract k (k + 2), 0, k, k + 2⟩) w e w' := by
  have h2 : k + 2 ≤ s.size := by
    have : bt s (k + 1) ≠ 0 := by
      intro e
      rw [e] at h
      unfold mk2 at h
      simp at h
    have := bt_nz this
    omega
  have ht := two_list s k h2
  have HP := hid (fun W => piece_any 4 s k (k + 2) W hs (by omega) h2)
  rw [show ((k + 2 : Nat) : Int) = (k : Int) + 2 by omega] at HP
  have h2' : (k : Int) + 2 ≤ s.size := by omega
  unfold tv at HP
  have hc : (bt s k = 38 ∧ bt s (k + 1) = 38) ∨ (bt s k = 124 ∧ bt s (k + 1) = 124) ∨ (bt s k = 61 ∧ bt s (k + 1) = 61) ∨ (bt s k = 33 ∧ bt s (k + 1) = 61) ∨ (bt s k = 60 ∧ bt s (k + 1) = 61) ∨ (bt s k = 62 ∧ bt s (k + 1) = 61) := by
    unfold mk2 at h
    simp only [Bool.or_eq_true, Bool.and_eq_true, beq_iff_eq] at h
    rcases h with ((((h | h) | h) | h) | h) | h
    · exact Or.inl h
    · exact Or.inr (Or.inl h)
    · exact Or.inr (Or.inr (Or.inl h))
    · exact Or.inr (Or.inr (Or.inr (Or.inl h)))
    · exact Or.inr (Or.inr (Or.inr (Or.inr (Or.inl h))))
    · exact Or.inr (Or.inr (Or.inr (Or.inr (Or.inr h))))
  clear h
  rcases hc with ⟨e1, e2⟩ | ⟨e1, e2⟩ | ⟨e1, e2⟩ | ⟨e1, e2⟩ | ⟨e1, e2⟩ | ⟨e1, e2⟩ <;>
  · rw [e1, e2] at ht
    clear e1 e2
    go_enter Tryz.func90, Tryz.ntmps90
    go_wp2_with fail
    have RC0 := hid (show Rc w.heap.size (w.alloc (.cells zcells 53)) from heap_alloc_new w _)
    have BL0 := hid (belowA w (.cells zcells 53))
    have hZ0 : (w.alloc (.cells zcells 53)).heap.size = w.heap.size + 1 := by simp
    unfold zcells at RC0 BL0 hZ0
    generalize w.alloc (.cells #[.int .i64 0, .string ⟨#[]⟩, .int .i64 0, .int .i64 0, .int .i64 0] 53) = W at *
    refine (HP.out _).mono ?_
    rintro x w1 ⟨rfl, l1⟩
    have R1 := hid (Rc.low RC0.out l1 (by omega))
    have B1 := hid (BL0.out.trans (l1.mono (by omega)))
    have ⟨⟨q0, q1, q2, q3, q4⟩, f0, f1, f2, f3, f4⟩ := Rc.facts R1.out
    clear l1 RC0 BL0
    go_wp2_with fail
    (try simp only [Exit.inBlock, Exit.then])
    refine bodyPost_ret (v := .tuple #[tv ⟨4, s.extract k (k + 2), 0, k, k + 2⟩, .nilIface]) ?_ rfl ⟨rfl, below_put5 B1.out _ _ _ _ _ _ (Nat.le_refl _)⟩
    rw [results_cell_tmp rfl]
    go_simp
    rfl
theorem mk2_no {a b : UInt8} (h : mk2 a b = false) : ([38, 38] == [a, b]) = false ∧ ([124, 124] == [a, b]) = false ∧ ([61, 61] == [a, b]) = false ∧ ([33, 61] == [a, b]) = false ∧ ([60, 61] == [a, b]) = false ∧ ([62, 61] == [a, b]) = false := by
  unfold mk2 at h
  simp at h ⊢
  obtain ⟨⟨⟨⟨⟨h1, h2⟩, h3⟩, h4⟩, h5⟩, h6⟩ := h
  exact ⟨fun e e' => h1 e.symm e'.symm, fun e e' => h2 e.symm e'.symm, fun e e' => h3 e.symm e'.symm, fun e e' => h4 e.symm e'.symm, fun e e' => h5 e.symm e'.symm, fun e e' => h6 e.symm e'.symm⟩
theorem mk2_no' {a b : UInt8} (h : mk2 a b = false) : ([a, b] == [38, 38]) = false ∧ ([a, b] == [124, 124]) = false ∧ ([a, b] == [61, 61]) = false ∧ ([a, b] == [33, 61]) = false ∧ ([a, b] == [60, 61]) = false ∧ ([a, b] == [62, 61]) = false := by
  unfold mk2 at h
  simp at h ⊢
  obtain ⟨⟨⟨⟨⟨h1, h2⟩, h3⟩, h4⟩, h5⟩, h6⟩ := h
  exact ⟨h1, h2, h3, h4, h5, h6⟩
set_option maxHeartbeats 4000000 in
theorem rmark_not (s : ByteArray) (k : Nat) (w : World) (hs : s.size ≤ 4096) (hk : k < s.size) (h : mk2 (bt s k) (bt s (k + 1)) = false) :
    Calls Tryz.prog 90 #[.string s, .int .i64 (k : Int)] w fun e w' => Rd (if mk1 (bt s k) = true then .ok ⟨4, s.extract k (k + 1), 0, k, k + 1⟩ else .bad 111 k) w e w' := by
  have HI := hid (fun W => sib_any marks1 (bt s k) W)
  have HP := hid (fun W => piece_any 4 s k (k + 1) W hs (by omega) (by omega))
  rw [show ((k + 1 : Nat) : Int) = (k : Int) + 1 by omega] at HP
  have HF := hid (fun W => fault_any 111 k W)
  unfold fv at HF
  unfold tv at HP
  have hb := iv_get s k hk
  have hi := idx_cases marks1 (bt s k)
  unfold mk1
  obtain ⟨r, hr⟩ : ∃ r, idx marks1 (bt s k) = r := ⟨_, rfl⟩
  rw [hr] at HI hi ⊢
  obtain ⟨x, hx⟩ : ∃ x, iv (bt s k) = x := ⟨_, rfl⟩
  rw [hx] at HI hb
  unfold marks1 at HI
  have hm := mk2_no' h
  have hm2 := mk2_no h
  clear h hr hx
  by_cases h2 : k + 2 ≤ s.size
  · have ht := two_list s k h2
    have h2' : (k : Int) + 2 ≤ s.size := by omega
    obtain ⟨m1, m2, m3, m4, m5, m6⟩ := hm
    generalize bt s k = a at *
    generalize bt s (k + 1) = b at *
    by_cases c : 0 ≤ r
    · rw [if_pos (by simpa using c)]
      have c' : ¬ r < 0 := by omega
      go_enter Tryz.func90, Tryz.ntmps90
      go_wp2_with (go_at_call 50; refine (HI.out _).mono ?_; rintro e w1 ⟨rfl, hww⟩; have hw2 := hww.symm; clear hww; subst hw2)
      have RC0 := hid (show Rc w.heap.size (w.alloc (.cells zcells 53)) from heap_alloc_new w _)
      have BL0 := hid (belowA w (.cells zcells 53))
      have hZ0 : (w.alloc (.cells zcells 53)).heap.size = w.heap.size + 1 := by simp
      unfold zcells at RC0 BL0 hZ0
      generalize w.alloc (.cells #[.int .i64 0, .string ⟨#[]⟩, .int .i64 0, .int .i64 0, .int .i64 0] 53) = W at *
      refine (HP.out _).mono ?_
      rintro x w1 ⟨rfl, l1⟩
      have R1 := hid (Rc.low RC0.out l1 (by omega))
      have B1 := hid (BL0.out.trans (l1.mono (by omega)))
      have ⟨⟨q0, q1, q2, q3, q4⟩, f0, f1, f2, f3, f4⟩ := Rc.facts R1.out
      clear l1 RC0 BL0
      go_wp2_with fail
      (try simp only [Exit.inBlock, Exit.then])
      refine bodyPost_ret (v := .tuple #[tv ⟨4, s.extract k (k + 1), 0, k, k + 1⟩, .nilIface]) ?_ rfl ⟨rfl, below_put5 B1.out _ _ _ _ _ _ (Nat.le_refl _)⟩
      rw [results_cell_tmp rfl]
      go_simp
      rfl
    · rw [if_neg (by simpa using c)]
      have c' : r < 0 := by omega
      go_enter Tryz.func90, Tryz.ntmps90
      go_wp2_with (go_at_call 50; refine (HI.out _).mono ?_; rintro e w1 ⟨rfl, hww⟩; have hw2 := hww.symm; clear hww; subst hw2)
      have RC0 := hid (show Rc w.heap.size (w.alloc (.cells zcells 53)) from heap_alloc_new w _)
      have BL0 := hid (belowA w (.cells zcells 53))
      have hZ0 : (w.alloc (.cells zcells 53)).heap.size = w.heap.size + 1 := by simp
      unfold zcells at RC0 BL0 hZ0
      generalize w.alloc (.cells #[.int .i64 0, .string ⟨#[]⟩, .int .i64 0, .int .i64 0, .int .i64 0] 53) = W at *
      refine (HF.out _).mono ?_
      rintro x w1 ⟨rfl, f1, l1⟩
      have R1 := hid (Rc.low RC0.out l1 (by omega))
      have B1 := hid (BL0.out.trans (l1.mono (by omega)))
      have F1 := hid f1
      clear f1
      have ⟨⟨q0, q1, q2, q3, q4⟩, f0, f1, f2, f3, f4⟩ := Rc.facts R1.out
      clear l1 RC0 BL0
      go_wp2_with fail
      (try simp only [Exit.inBlock, Exit.then])
      refine bodyPost_ret (v := .tuple #[tv tok0, fv W.heap.size]) ?_ rfl ⟨_, rfl, F1.out.put5 _ _ _ _ _ _ (by omega), by omega, below_put5 B1.out _ _ _ _ _ _ (Nat.le_refl _)⟩
      rw [results_cell_tmp rfl]
      go_simp
      exact ⟨rfl, rfl⟩
  · have h2' : ¬ (k : Int) + 2 ≤ s.size := by omega
    clear hm hm2
    generalize bt s k = a at *
    by_cases c : 0 ≤ r
    · rw [if_pos (by simpa using c)]
      have c' : ¬ r < 0 := by omega
      go_enter Tryz.func90, Tryz.ntmps90
      go_wp2_with (go_at_call 50; refine (HI.out _).mono ?_; rintro e w1 ⟨rfl, hww⟩; have hw2 := hww.symm; clear hww; subst hw2)
      have RC0 := hid (show Rc w.heap.size (w.alloc (.cells zcells 53)) from heap_alloc_new w _)
      have BL0 := hid (belowA w (.cells zcells 53))
      have hZ0 : (w.alloc (.cells zcells 53)).heap.size = w.heap.size + 1 := by simp
      unfold zcells at RC0 BL0 hZ0
      generalize w.alloc (.cells #[.int .i64 0, .string ⟨#[]⟩, .int .i64 0, .int .i64 0, .int .i64 0] 53) = W at *
      refine (HP.out _).mono ?_
      rintro x w1 ⟨rfl, l1⟩
      have R1 := hid (Rc.low RC0.out l1 (by omega))
      have B1 := hid (BL0.out.trans (l1.mono (by omega)))
      have ⟨⟨q0, q1, q2, q3, q4⟩, f0, f1, f2, f3, f4⟩ := Rc.facts R1.out
      clear l1 RC0 BL0
      go_wp2_with fail
      (try simp only [Exit.inBlock, Exit.then])
      refine bodyPost_ret (v := .tuple #[tv ⟨4, s.extract k (k + 1), 0, k, k + 1⟩, .nilIface]) ?_ rfl ⟨rfl, below_put5 B1.out _ _ _ _ _ _ (Nat.le_refl _)⟩
      rw [results_cell_tmp rfl]
      go_simp
      rfl
    · rw [if_neg (by simpa using c)]
      have c' : r < 0 := by omega
      go_enter Tryz.func90, Tryz.ntmps90
      go_wp2_with (go_at_call 50; refine (HI.out _).mono ?_; rintro e w1 ⟨rfl, hww⟩; have hw2 := hww.symm; clear hww; subst hw2)
      have RC0 := hid (show Rc w.heap.size (w.alloc (.cells zcells 53)) from heap_alloc_new w _)
      have BL0 := hid (belowA w (.cells zcells 53))
      have hZ0 : (w.alloc (.cells zcells 53)).heap.size = w.heap.size + 1 := by simp
      unfold zcells at RC0 BL0 hZ0
      generalize w.alloc (.cells #[.int .i64 0, .string ⟨#[]⟩, .int .i64 0, .int .i64 0, .int .i64 0] 53) = W at *
      refine (HF.out _).mono ?_
      rintro x w1 ⟨rfl, f1, l1⟩
      have R1 := hid (Rc.low RC0.out l1 (by omega))
      have B1 := hid (BL0.out.trans (l1.mono (by omega)))
      have F1 := hid f1
      clear f1
      have ⟨⟨q0, q1, q2, q3, q4⟩, f0, f1, f2, f3, f4⟩ := Rc.facts R1.out
      clear l1 RC0 BL0
      go_wp2_with fail
      (try simp only [Exit.inBlock, Exit.then])
      refine bodyPost_ret (v := .tuple #[tv tok0, fv W.heap.size]) ?_ rfl ⟨_, rfl, F1.out.put5 _ _ _ _ _ _ (by omega), by omega, below_put5 B1.out _ _ _ _ _ _ (Nat.le_refl _)⟩
      rw [results_cell_tmp rfl]
      go_simp
      exact ⟨rfl, rfl⟩
theorem rmark_any (s : ByteArray) (k : Nat) (w : World) (hs : s.size ≤ 4096) (hk : k < s.size) : Calls Tryz.prog 90 #[.string s, .int .i64 (k : Int)] w fun e w' => Rd (markS s k) w e w' := by
  unfold markS
  cases h : mk2 (bt s k) (bt s (k + 1))
  · rw [if_neg (by decide)]
    exact rmark_not s k w hs hk h
  · rw [if_pos rfl]
    exact rmark_two s k w hs hk h
end Go.Proofs.YtcldglilhhhdoaaGreatDoor.L
