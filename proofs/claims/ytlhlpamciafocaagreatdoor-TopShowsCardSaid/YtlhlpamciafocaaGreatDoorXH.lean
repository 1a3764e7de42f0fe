import Derived.Test.YtlhlpamciafocaaGreatDoorMgAE
namespace Go.Proofs.YtlhlpamciafocaaGreatDoor.L
open Go.RowKit Go.Shelf
set_option linter.unusedVariables false
/-- The number that begins at k. -/
def numTok (s : ByteArray) (k : Nat) : RR :=
  match numS (s.extract k (behW s (k + 1))) with
  | none => .bad 114 k
  | some n => .ok ⟨2, ⟨#[]⟩, n, k, behW s (k + 1)⟩
/-- The token that begins at k. -/
def tokS (s : ByteArray) (k : Nat) : RR :=
  if bt s k = 34 then (txS s k (k + 1) []).rr k
  else if digB (iv (bt s k)) = true ∨ (bt s k = 45 ∧ digB (iv (bt s (k + 1))) = true) then numTok s k
  else if inwB (iv (bt s k)) = true then .ok ⟨3, s.extract k (behW s k), 0, k, behW s k⟩
  else markS s k
theorem bt_ext (s : ByteArray) (k e j : Nat) (h : k + j < e) (he : e ≤ s.size) : bt (s.extract k e) j = bt s (k + j) := by
  unfold bt
  rw [List.getD_eq_getElem?_getD, List.getD_eq_getElem?_getD]
  simp [ByteArray.data_extract]
  rw [List.getElem?_take_of_lt (by omega), List.getElem?_drop]
  simp
theorem dig_inw {x : Int} (h : digB x = true) : inwB x = true := by unfold inwB; rw [h]; rfl
/-- What is asked of the text of a number. -/
theorem num_ready (s : ByteArray) (k : Nat) (hk : k < s.size) (h : digB (iv (bt s k)) = true ∨ (bt s k = 45 ∧ digB (iv (bt s (k + 1))) = true)) :
    bt (s.extract k (behW s (k + 1))) 0 ≠ 43 ∧ (s.extract k (behW s (k + 1))).size ≠ 0 ∧ dgs (s.extract k (behW s (k + 1))) ≠ [] := by
  obtain ⟨b1, b2⟩ := behW_in s _ (k + 1) rfl
  have b3 := b2 (by omega)
  have e0 : bt (s.extract k (behW s (k + 1))) 0 = bt s k := bt_ext s k (behW s (k + 1)) 0 (by omega) b3
  have hsz : (s.extract k (behW s (k + 1))).size = behW s (k + 1) - k := by simp; omega
  refine ⟨?_, by omega, ?_⟩
  · rw [e0]
    intro e
    rw [e] at h
    rcases h with h | ⟨h, _⟩
    · exact absurd h (by decide)
    · exact absurd h (by decide)
  · unfold dgs
    rw [e0]
    by_cases c : bt s k = 45
    · rw [if_pos c]
      have hd : digB (iv (bt s (k + 1))) = true := by
        rcases h with h | h
        · rw [c] at h; exact absurd h (by decide)
        · exact h.2
      have hlt : k + 1 < s.size := by
        apply Classical.byContradiction
        intro n
        rw [bt_out s (k + 1) (by omega)] at hd
        exact absurd hd (by decide)
      have : behW s (k + 1) = behW s (k + 1 + 1) := behW_go s (k + 1) hlt (dig_inw hd)
      have b4 := (behW_in s _ (k + 1 + 1) rfl).1
      intro e
      have := congrArg List.length e
      rw [List.length_drop, Array.length_toList] at this
      have hsz' : (s.extract k (behW s (k + 1))).data.size = behW s (k + 1) - k := hsz
      simp only [List.length_nil] at this
      omega
    · rw [if_neg c]
      intro e
      have := congrArg List.length e
      rw [Array.length_toList] at this
      have hsz' : (s.extract k (behW s (k + 1))).data.size = behW s (k + 1) - k := hsz
      simp only [List.length_nil] at this
      omega
set_option maxHeartbeats 4000000 in
theorem rnum_any (s : ByteArray) (k : Nat) (w : World) (hs : s.size ≤ 4096) (hk : k < s.size) (hv : Vars w) (h : digB (iv (bt s k)) = true ∨ (bt s k = 45 ∧ digB (iv (bt s (k + 1))) = true)) :
    Calls Tryz.prog 81 #[.string s, .int .i64 (k : Int)] w fun e w' => Rd (numTok s k) w e w' := by
  obtain ⟨n1, n2, n3⟩ := num_ready s k hk h
  have HW := hid (fun W => lbeh_any s (k + 1) W hs (by omega))
  rw [show ((k + 1 : Nat) : Int) = (k : Int) + 1 by omega] at HW
  obtain ⟨b1, b2⟩ := behW_in s _ (k + 1) rfl
  have b3 := b2 (by omega)
  clear b2 h
  have HN := hid (fun W hv => number_any (s.extract k (behW s (k + 1))) W (by simp; omega) n1 n2 n3 hv)
  have HF := hid (fun W => fault_any 114 k W)
  unfold fv at HF
  clear n1 n2 n3
  unfold numTok
  generalize numS (s.extract k (behW s (k + 1))) = R at *
  generalize behW s (k + 1) = e at *
  have g1 : (k : Int) ≤ e := by omega
  have g2 : (e : Int) ≤ s.size := by omega
  go_enter Tryz.func81, Tryz.ntmps81
  go_wp2_with fail
  have RC0 := hid (show Rc w.heap.size (w.alloc (.cells zcells 80)) from heap_alloc_new w _)
  have BL0 := hid (belowA w (.cells zcells 80))
  have hZ0 : (w.alloc (.cells zcells 80)).heap.size = w.heap.size + 1 := by simp
  unfold zcells at RC0 BL0 hZ0
  generalize w.alloc (.cells #[.int .i64 0, .string ⟨#[]⟩, .int .i64 0, .int .i64 0, .int .i64 0] 80) = W at *
  have V0 := hid (hv.low BL0.out)
  refine (HW.out _).mono ?_
  rintro x w1 ⟨rfl, hww⟩
  have hw2 := hww.symm
  clear hww
  subst hw2
  go_wp2_with fail
  cases R with
  | some n =>
    refine (HN.out _ V0.out).mono ?_
    rintro x w1 ⟨rfl, l1⟩
    have R1 := hid (Rc.low RC0.out l1 (by omega))
    have B1 := hid (BL0.out.trans (l1.mono (by omega)))
    have ⟨⟨q0, q1, q2, q3, q4⟩, f0, f1, f2, f3, f4⟩ := Rc.facts R1.out
    clear l1 RC0 BL0
    go_wp2_with fail
    (try simp only [Exit.inBlock, Exit.then])
    refine bodyPost_ret (v := .tuple #[tv ⟨2, ⟨#[]⟩, n, k, e⟩, .nilIface]) ?_ rfl ⟨rfl, below_put5 B1.out _ _ _ _ _ _ (Nat.le_refl _)⟩
    rw [results_cell_tmp rfl]
    go_simp
    rfl
  | none =>
    refine (HN.out _ V0.out).mono ?_
    rintro x w1 ⟨n, rfl, l1⟩
    have R1 := hid (Rc.low RC0.out l1 (by omega))
    have B1 := hid (BL0.out.trans (l1.mono (by omega)))
    have hZ1 : w.heap.size < w1.heap.size := R1.out.lt
    clear l1 RC0 BL0
    go_wp2_with fail
    refine (HF.out _).mono ?_
    rintro x w2 ⟨rfl, f2, l2⟩
    have R2 := hid (Rc.low R1.out l2 (by omega))
    have B2 := hid (B1.out.trans (l2.mono (by omega)))
    have F2 := hid f2
    have ⟨⟨q0, q1, q2, q3, q4⟩, f0, f1, f2, f3, f4⟩ := Rc.facts R2.out
    clear l2
    go_wp2_with fail
    (try simp only [Exit.inBlock, Exit.then])
    refine bodyPost_ret (v := .tuple #[tv tok0, fv w1.heap.size]) ?_ rfl ⟨_, rfl, F2.out.put5 _ _ _ _ _ _ (by omega), by omega, below_put5 B2.out _ _ _ _ _ _ (Nat.le_refl _)⟩
    rw [results_cell_tmp rfl]
    go_simp
    exact ⟨rfl, rfl⟩
set_option maxHeartbeats 4000000 in
theorem read_any (s : ByteArray) (k : Nat) (w : World) (hs : s.size ≤ 4096) (hk : k < s.size) (hv : Vars w) :
    Calls Tryz.prog 70 #[.string s, .int .i64 (k : Int)] w fun e w' => Rd (tokS s k) w e w' := by
  have hc := iv_get s k hk
  obtain ⟨x, hx⟩ : ∃ x, iv (bt s k) = x := ⟨_, rfl⟩
  have HX := hid hx
  rw [hx] at hc
  obtain ⟨R, hR⟩ : ∃ R, tokS s k = R := ⟨_, rfl⟩
  rw [hR]
  unfold tokS at hR
  by_cases c34 : bt s k = 34
  · rw [if_pos c34] at hR
    rw [c34] at hx
    have e34 : x = 34 := hx.symm
    have HT := hid (fun W => readtext_any s k W hs hk)
    rw [hR] at HT
    clear hx
    subst e34
    go_enter Tryz.func70, Tryz.ntmps70
    go_wp2_with fail
    have RC0 := hid (show Rc w.heap.size (w.alloc (.cells zcells 80)) from heap_alloc_new w _)
    have BL0 := hid (belowA w (.cells zcells 80))
    have hZ0 : (w.alloc (.cells zcells 80)).heap.size = w.heap.size + 1 := by simp
    unfold zcells at RC0 BL0 hZ0
    generalize w.alloc (.cells #[.int .i64 0, .string ⟨#[]⟩, .int .i64 0, .int .i64 0, .int .i64 0] 80) = W at *
    cases R with
    | ok t =>
      obtain ⟨kd, tx, nm, a, e⟩ := t
      refine (HT.out _).mono ?_
      rintro x w1 ⟨rfl, l1⟩
      unfold tv
      have R1 := hid (Rc.low RC0.out l1 (by omega))
      have B1 := hid (BL0.out.trans (l1.mono (by omega)))
      have ⟨⟨q0, q1, q2, q3, q4⟩, f0, f1, f2, f3, f4⟩ := Rc.facts R1.out
      clear l1 RC0 BL0
      go_wp2_with fail
      (try simp only [Exit.inBlock, Exit.then])
      refine bodyPost_ret (v := .tuple #[tv ⟨kd, tx, nm, a, e⟩, .nilIface]) ?_ rfl ⟨rfl, below_put5 B1.out _ _ _ _ _ _ (Nat.le_refl _)⟩
      rw [results_cell_tmp rfl]
      go_simp
      rfl
    | bad c a =>
      refine (HT.out _).mono ?_
      rintro x w1 ⟨N, rfl, f1, hN, l1⟩
      unfold tv tok0 fv
      have R1 := hid (Rc.low RC0.out l1 (by omega))
      have B1 := hid (BL0.out.trans (l1.mono (by omega)))
      have F1 := hid f1
      have ⟨⟨q0, q1, q2, q3, q4⟩, f0, f1, f2, f3, f4⟩ := Rc.facts R1.out
      clear l1 RC0 BL0
      go_wp2_with fail
      (try simp only [Exit.inBlock, Exit.then])
      refine bodyPost_ret (v := .tuple #[tv tok0, fv N]) ?_ rfl ⟨_, rfl, F1.out.put5 _ _ _ _ _ _ (by omega), by omega, below_put5 B1.out _ _ _ _ _ _ (Nat.le_refl _)⟩
      rw [results_cell_tmp rfl]
      go_simp
      first | rfl | exact ⟨rfl, rfl⟩
  · rw [if_neg c34] at hR
    have c34' : (x == 34) = false := by rw [← hx]; exact ne_iv c34
    have HD := hid (fun W => ldig_any x W)
    have HI := hid (fun W => linw_any x W)
    rw [hx] at hR
    by_cases cd : digB x = true
    · rw [if_pos (Or.inl cd)] at hR
      rw [cd] at HD
      have HN := hid (fun W hv => rnum_any s k W hs hk hv (Or.inl (by rw [hx]; exact cd)))
      rw [hR] at HN
      clear hx
      go_enter Tryz.func70, Tryz.ntmps70
      go_wp2_with (go_at_call 80; refine (HD.out _).mono ?_; rintro e w1 ⟨rfl, hww⟩; have hw2 := hww.symm; clear hww; subst hw2)
      have RC0 := hid (show Rc w.heap.size (w.alloc (.cells zcells 80)) from heap_alloc_new w _)
      have BL0 := hid (belowA w (.cells zcells 80))
      have hZ0 : (w.alloc (.cells zcells 80)).heap.size = w.heap.size + 1 := by simp
      unfold zcells at RC0 BL0 hZ0
      generalize w.alloc (.cells #[.int .i64 0, .string ⟨#[]⟩, .int .i64 0, .int .i64 0, .int .i64 0] 80) = W at *
      have V0 := hid (hv.low BL0.out)
      cases R with
      | ok t =>
        obtain ⟨kd, tx, nm, a, e⟩ := t
        refine (HN.out _ V0.out).mono ?_
        rintro x w1 ⟨rfl, l1⟩
        unfold tv
        have R1 := hid (Rc.low RC0.out l1 (by omega))
        have B1 := hid (BL0.out.trans (l1.mono (by omega)))
        have ⟨⟨q0, q1, q2, q3, q4⟩, f0, f1, f2, f3, f4⟩ := Rc.facts R1.out
        clear l1 RC0 BL0
        go_wp2_with fail
        (try simp only [Exit.inBlock, Exit.then])
        refine bodyPost_ret (v := .tuple #[tv ⟨kd, tx, nm, a, e⟩, .nilIface]) ?_ rfl ⟨rfl, below_put5 B1.out _ _ _ _ _ _ (Nat.le_refl _)⟩
        rw [results_cell_tmp rfl]
        go_simp
        rfl
      | bad c a =>
        refine (HN.out _ V0.out).mono ?_
        rintro x w1 ⟨N, rfl, f1, hN, l1⟩
        unfold tv tok0 fv
        have R1 := hid (Rc.low RC0.out l1 (by omega))
        have B1 := hid (BL0.out.trans (l1.mono (by omega)))
        have F1 := hid f1
        have ⟨⟨q0, q1, q2, q3, q4⟩, f0, f1, f2, f3, f4⟩ := Rc.facts R1.out
        clear l1 RC0 BL0
        go_wp2_with fail
        (try simp only [Exit.inBlock, Exit.then])
        refine bodyPost_ret (v := .tuple #[tv tok0, fv N]) ?_ rfl ⟨_, rfl, F1.out.put5 _ _ _ _ _ _ (by omega), by omega, below_put5 B1.out _ _ _ _ _ _ (Nat.le_refl _)⟩
        rw [results_cell_tmp rfl]
        go_simp
        first | rfl | exact ⟨rfl, rfl⟩
    · have cd' : digB x = false := by simpa using cd
      rw [cd'] at HD
      by_cases c45 : bt s k = 45
      · have x45 : x = 45 := by rw [← hx, c45]; rfl
        have hlt : k + 1 < s.size ∨ ¬ k + 1 < s.size := Classical.em _
        cases cz : digB (iv (bt s (k + 1)))
        · rw [if_neg (by rw [cd', cz]; simp)] at hR
          have HM := hid (fun W => rmark_any s k W hs hk)
          have ei : inwB x = false := by rw [x45]; decide
          rw [if_neg (by rw [ei]; decide)] at hR
          rw [hR] at HM
          rw [ei] at HI
          clear hx
          subst x45
          rcases hlt with hl | hl
          · have hc2 := iv_get s (k + 1) hl
            have HD2 := hid (fun W => ldig_any (iv (bt s (k + 1))) W)
            rw [cz] at HD2
            have hl' : (k : Int) + 1 < s.size := by omega
            obtain ⟨y, hy⟩ : ∃ y, iv (bt s (k + 1)) = y := ⟨_, rfl⟩
            rw [hy] at hc2 HD2
            clear cz hy
            go_enter Tryz.func70, Tryz.ntmps70
            go_wp2_with (first | (go_at_call 80; (first | (with_reducible refine (HD.out _).mono ?_) | (with_reducible refine (HD2.out _).mono ?_)); rintro e w1 ⟨rfl, hww⟩; have hw2 := hww.symm; clear hww; subst hw2) | (go_at_call 82; refine (HI.out _).mono ?_; rintro e w1 ⟨rfl, hww⟩; have hw2 := hww.symm; clear hww; subst hw2))
            have RC0 := hid (show Rc w.heap.size (w.alloc (.cells zcells 80)) from heap_alloc_new w _)
            have BL0 := hid (belowA w (.cells zcells 80))
            have hZ0 : (w.alloc (.cells zcells 80)).heap.size = w.heap.size + 1 := by simp
            unfold zcells at RC0 BL0 hZ0
            generalize w.alloc (.cells #[.int .i64 0, .string ⟨#[]⟩, .int .i64 0, .int .i64 0, .int .i64 0] 80) = W at *
            cases R with
            | ok t =>
              obtain ⟨kd, tx, nm, a, e⟩ := t
              refine (HM.out _).mono ?_
              rintro x w1 ⟨rfl, l1⟩
              unfold tv
              have R1 := hid (Rc.low RC0.out l1 (by omega))
              have B1 := hid (BL0.out.trans (l1.mono (by omega)))
              have ⟨⟨q0, q1, q2, q3, q4⟩, f0, f1, f2, f3, f4⟩ := Rc.facts R1.out
              clear l1 RC0 BL0
              go_wp2_with fail
              (try simp only [Exit.inBlock, Exit.then])
              refine bodyPost_ret (v := .tuple #[tv ⟨kd, tx, nm, a, e⟩, .nilIface]) ?_ rfl ⟨rfl, below_put5 B1.out _ _ _ _ _ _ (Nat.le_refl _)⟩
              rw [results_cell_tmp rfl]
              go_simp
              rfl
            | bad c a =>
              refine (HM.out _).mono ?_
              rintro x w1 ⟨N, rfl, f1, hN, l1⟩
              unfold tv tok0 fv
              have R1 := hid (Rc.low RC0.out l1 (by omega))
              have B1 := hid (BL0.out.trans (l1.mono (by omega)))
              have F1 := hid f1
              have ⟨⟨q0, q1, q2, q3, q4⟩, f0, f1, f2, f3, f4⟩ := Rc.facts R1.out
              clear l1 RC0 BL0
              go_wp2_with fail
              (try simp only [Exit.inBlock, Exit.then])
              refine bodyPost_ret (v := .tuple #[tv tok0, fv N]) ?_ rfl ⟨_, rfl, F1.out.put5 _ _ _ _ _ _ (by omega), by omega, below_put5 B1.out _ _ _ _ _ _ (Nat.le_refl _)⟩
              rw [results_cell_tmp rfl]
              go_simp
              first | rfl | exact ⟨rfl, rfl⟩
          · have hl' : ¬ (k : Int) + 1 < s.size := by omega
            clear cz
            go_enter Tryz.func70, Tryz.ntmps70
            go_wp2_with (first | (go_at_call 80; refine (HD.out _).mono ?_; rintro e w1 ⟨rfl, hww⟩; have hw2 := hww.symm; clear hww; subst hw2) | (go_at_call 82; refine (HI.out _).mono ?_; rintro e w1 ⟨rfl, hww⟩; have hw2 := hww.symm; clear hww; subst hw2))
            have RC0 := hid (show Rc w.heap.size (w.alloc (.cells zcells 80)) from heap_alloc_new w _)
            have BL0 := hid (belowA w (.cells zcells 80))
            have hZ0 : (w.alloc (.cells zcells 80)).heap.size = w.heap.size + 1 := by simp
            unfold zcells at RC0 BL0 hZ0
            generalize w.alloc (.cells #[.int .i64 0, .string ⟨#[]⟩, .int .i64 0, .int .i64 0, .int .i64 0] 80) = W at *
            cases R with
            | ok t =>
              obtain ⟨kd, tx, nm, a, e⟩ := t
              refine (HM.out _).mono ?_
              rintro x w1 ⟨rfl, l1⟩
              unfold tv
              have R1 := hid (Rc.low RC0.out l1 (by omega))
              have B1 := hid (BL0.out.trans (l1.mono (by omega)))
              have ⟨⟨q0, q1, q2, q3, q4⟩, f0, f1, f2, f3, f4⟩ := Rc.facts R1.out
              clear l1 RC0 BL0
              go_wp2_with fail
              (try simp only [Exit.inBlock, Exit.then])
              refine bodyPost_ret (v := .tuple #[tv ⟨kd, tx, nm, a, e⟩, .nilIface]) ?_ rfl ⟨rfl, below_put5 B1.out _ _ _ _ _ _ (Nat.le_refl _)⟩
              rw [results_cell_tmp rfl]
              go_simp
              rfl
            | bad c a =>
              refine (HM.out _).mono ?_
              rintro x w1 ⟨N, rfl, f1, hN, l1⟩
              unfold tv tok0 fv
              have R1 := hid (Rc.low RC0.out l1 (by omega))
              have B1 := hid (BL0.out.trans (l1.mono (by omega)))
              have F1 := hid f1
              have ⟨⟨q0, q1, q2, q3, q4⟩, f0, f1, f2, f3, f4⟩ := Rc.facts R1.out
              clear l1 RC0 BL0
              go_wp2_with fail
              (try simp only [Exit.inBlock, Exit.then])
              refine bodyPost_ret (v := .tuple #[tv tok0, fv N]) ?_ rfl ⟨_, rfl, F1.out.put5 _ _ _ _ _ _ (by omega), by omega, below_put5 B1.out _ _ _ _ _ _ (Nat.le_refl _)⟩
              rw [results_cell_tmp rfl]
              go_simp
              first | rfl | exact ⟨rfl, rfl⟩
        · rw [if_pos (Or.inr ⟨c45, cz⟩)] at hR
          have HN := hid (fun W hv => rnum_any s k W hs hk hv (Or.inr ⟨c45, cz⟩))
          rw [hR] at HN
          have hl : k + 1 < s.size := by
            apply Classical.byContradiction
            intro n
            rw [bt_out s (k + 1) (by omega)] at cz
            exact absurd cz (by decide)
          have hc2 := iv_get s (k + 1) hl
          have HD2 := hid (fun W => ldig_any (iv (bt s (k + 1))) W)
          rw [cz] at HD2
          have hl' : (k : Int) + 1 < s.size := by omega
          obtain ⟨y, hy⟩ : ∃ y, iv (bt s (k + 1)) = y := ⟨_, rfl⟩
          rw [hy] at hc2 HD2
          clear cz hy hx
          subst x45
          go_enter Tryz.func70, Tryz.ntmps70
          go_wp2_with (go_at_call 80; (first | (with_reducible refine (HD.out _).mono ?_) | (with_reducible refine (HD2.out _).mono ?_)); rintro e w1 ⟨rfl, hww⟩; have hw2 := hww.symm; clear hww; subst hw2)
          have RC0 := hid (show Rc w.heap.size (w.alloc (.cells zcells 80)) from heap_alloc_new w _)
          have BL0 := hid (belowA w (.cells zcells 80))
          have hZ0 : (w.alloc (.cells zcells 80)).heap.size = w.heap.size + 1 := by simp
          unfold zcells at RC0 BL0 hZ0
          generalize w.alloc (.cells #[.int .i64 0, .string ⟨#[]⟩, .int .i64 0, .int .i64 0, .int .i64 0] 80) = W at *
          have V0 := hid (hv.low BL0.out)
          cases R with
          | ok t =>
            obtain ⟨kd, tx, nm, a, e⟩ := t
            refine (HN.out _ V0.out).mono ?_
            rintro x w1 ⟨rfl, l1⟩
            unfold tv
            have R1 := hid (Rc.low RC0.out l1 (by omega))
            have B1 := hid (BL0.out.trans (l1.mono (by omega)))
            have ⟨⟨q0, q1, q2, q3, q4⟩, f0, f1, f2, f3, f4⟩ := Rc.facts R1.out
            clear l1 RC0 BL0
            go_wp2_with fail
            (try simp only [Exit.inBlock, Exit.then])
            refine bodyPost_ret (v := .tuple #[tv ⟨kd, tx, nm, a, e⟩, .nilIface]) ?_ rfl ⟨rfl, below_put5 B1.out _ _ _ _ _ _ (Nat.le_refl _)⟩
            rw [results_cell_tmp rfl]
            go_simp
            rfl
          | bad c a =>
            refine (HN.out _ V0.out).mono ?_
            rintro x w1 ⟨N, rfl, f1, hN, l1⟩
            unfold tv tok0 fv
            have R1 := hid (Rc.low RC0.out l1 (by omega))
            have B1 := hid (BL0.out.trans (l1.mono (by omega)))
            have F1 := hid f1
            have ⟨⟨q0, q1, q2, q3, q4⟩, f0, f1, f2, f3, f4⟩ := Rc.facts R1.out
            clear l1 RC0 BL0
            go_wp2_with fail
            (try simp only [Exit.inBlock, Exit.then])
            refine bodyPost_ret (v := .tuple #[tv tok0, fv N]) ?_ rfl ⟨_, rfl, F1.out.put5 _ _ _ _ _ _ (by omega), by omega, below_put5 B1.out _ _ _ _ _ _ (Nat.le_refl _)⟩
            rw [results_cell_tmp rfl]
            go_simp
            first | rfl | exact ⟨rfl, rfl⟩
      · have x45 : (x == 45) = false := by rw [← hx]; exact ne_iv c45
        rw [if_neg (by rw [cd']; simp [c45])] at hR
        cases ci : inwB x
        · rw [if_neg (by rw [ci]; decide)] at hR
          rw [ci] at HI
          have HM := hid (fun W => rmark_any s k W hs hk)
          rw [hR] at HM
          clear hx
          go_enter Tryz.func70, Tryz.ntmps70
          go_wp2_with (first | (go_at_call 80; refine (HD.out _).mono ?_; rintro e w1 ⟨rfl, hww⟩; have hw2 := hww.symm; clear hww; subst hw2) | (go_at_call 82; refine (HI.out _).mono ?_; rintro e w1 ⟨rfl, hww⟩; have hw2 := hww.symm; clear hww; subst hw2))
          have RC0 := hid (show Rc w.heap.size (w.alloc (.cells zcells 80)) from heap_alloc_new w _)
          have BL0 := hid (belowA w (.cells zcells 80))
          have hZ0 : (w.alloc (.cells zcells 80)).heap.size = w.heap.size + 1 := by simp
          unfold zcells at RC0 BL0 hZ0
          generalize w.alloc (.cells #[.int .i64 0, .string ⟨#[]⟩, .int .i64 0, .int .i64 0, .int .i64 0] 80) = W at *
          cases R with
          | ok t =>
            obtain ⟨kd, tx, nm, a, e⟩ := t
            refine (HM.out _).mono ?_
            rintro x w1 ⟨rfl, l1⟩
            unfold tv
            have R1 := hid (Rc.low RC0.out l1 (by omega))
            have B1 := hid (BL0.out.trans (l1.mono (by omega)))
            have ⟨⟨q0, q1, q2, q3, q4⟩, f0, f1, f2, f3, f4⟩ := Rc.facts R1.out
            clear l1 RC0 BL0
            go_wp2_with fail
            (try simp only [Exit.inBlock, Exit.then])
            refine bodyPost_ret (v := .tuple #[tv ⟨kd, tx, nm, a, e⟩, .nilIface]) ?_ rfl ⟨rfl, below_put5 B1.out _ _ _ _ _ _ (Nat.le_refl _)⟩
            rw [results_cell_tmp rfl]
            go_simp
            rfl
          | bad c a =>
            refine (HM.out _).mono ?_
            rintro x w1 ⟨N, rfl, f1, hN, l1⟩
            unfold tv tok0 fv
            have R1 := hid (Rc.low RC0.out l1 (by omega))
            have B1 := hid (BL0.out.trans (l1.mono (by omega)))
            have F1 := hid f1
            have ⟨⟨q0, q1, q2, q3, q4⟩, f0, f1, f2, f3, f4⟩ := Rc.facts R1.out
            clear l1 RC0 BL0
            go_wp2_with fail
            (try simp only [Exit.inBlock, Exit.then])
            refine bodyPost_ret (v := .tuple #[tv tok0, fv N]) ?_ rfl ⟨_, rfl, F1.out.put5 _ _ _ _ _ _ (by omega), by omega, below_put5 B1.out _ _ _ _ _ _ (Nat.le_refl _)⟩
            rw [results_cell_tmp rfl]
            go_simp
            first | rfl | exact ⟨rfl, rfl⟩
        · rw [if_pos ci] at hR
          rw [ci] at HI
          have HW := hid (fun W => lbeh_any s k W hs (by omega))
          obtain ⟨b1, b2⟩ := behW_in s _ k rfl
          have b3 := b2 (by omega)
          have HP := hid (fun W => piece_any 3 s k (behW s k) W hs b1 b3)
          unfold tv at HP
          subst hR
          generalize behW s k = e at *
          clear hx b2
          go_enter Tryz.func70, Tryz.ntmps70
          go_wp2_with (first | (go_at_call 80; refine (HD.out _).mono ?_; rintro e w1 ⟨rfl, hww⟩; have hw2 := hww.symm; clear hww; subst hw2) | (go_at_call 82; refine (HI.out _).mono ?_; rintro e w1 ⟨rfl, hww⟩; have hw2 := hww.symm; clear hww; subst hw2) | (go_at_call 84; refine (HW.out _).mono ?_; rintro e w1 ⟨rfl, hww⟩; have hw2 := hww.symm; clear hww; subst hw2))
          have RC0 := hid (show Rc w.heap.size (w.alloc (.cells zcells 80)) from heap_alloc_new w _)
          have BL0 := hid (belowA w (.cells zcells 80))
          have hZ0 : (w.alloc (.cells zcells 80)).heap.size = w.heap.size + 1 := by simp
          unfold zcells at RC0 BL0 hZ0
          generalize w.alloc (.cells #[.int .i64 0, .string ⟨#[]⟩, .int .i64 0, .int .i64 0, .int .i64 0] 80) = W at *
          refine (HP.out _).mono ?_
          rintro x w1 ⟨rfl, l1⟩
          have R1 := hid (Rc.low RC0.out l1 (by omega))
          have B1 := hid (BL0.out.trans (l1.mono (by omega)))
          have ⟨⟨q0, q1, q2, q3, q4⟩, f0, f1, f2, f3, f4⟩ := Rc.facts R1.out
          clear l1 RC0 BL0
          go_wp2_with fail
          (try simp only [Exit.inBlock, Exit.then])
          refine bodyPost_ret (v := .tuple #[tv ⟨3, s.extract k e, 0, k, e⟩, .nilIface]) ?_ rfl ⟨rfl, below_put5 B1.out _ _ _ _ _ _ (Nat.le_refl _)⟩
          rw [results_cell_tmp rfl]
          go_simp
          rfl
end Go.Proofs.YtlhlpamciafocaaGreatDoor.L
