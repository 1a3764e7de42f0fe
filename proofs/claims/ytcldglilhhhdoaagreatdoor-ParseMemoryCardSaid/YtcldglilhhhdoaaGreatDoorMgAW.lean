import Derived.Test.YtcldglilhhhdoaaGreatDoorMgAV
namespace Go.Proofs.YtcldglilhhhdoaaGreatDoor.L
open Go.RowKit Go.Shelf
set_option linter.unusedVariables false
theorem results_cell_tmp2 {fn : Func} {p u x : Tmp} {ty : TypeId} (h : fn.results = #[.cell p ty, .tmp u, .tmp x]) (tmps : Array Value) (P : Program) (w : World) :
  (results fn tmps).run P w = ((asAddr (tmps.getD p undef)).run P w).andThen fun a w₁ => ((loadVar ty a).run P w₁).andThen fun v w₂ => .ok (.tuple #[v, tmps.getD u undef, tmps.getD x undef]) w₂ := by
 simp only [results, h]
 simp [Sem.run_bind, Result.andThen]
theorem txS_nz (s : ByteArray) (f : Nat) : ∀ (k : Nat) (l : List UInt8) (c a : Nat), txS s f k l = .bad c a → c ≠ 0 := by
 suffices H : ∀ (n k : Nat) (l : List UInt8), s.size - k = n → ∀ c a, txS s f k l = .bad c a → c ≠ 0 from fun k l c a h => H _ k l rfl c a h
 intro n
 induction n using Nat.strongRecOn with
 | ind n ih =>
  intro k l hn c0 a0 h
  by_cases hlt : k < s.size
  ·by_cases c : bt s k = 34
   ·rw [txS_q s f k l hlt c] at h
    split at h
    ·obtain ⟨rfl, _⟩ := TR.bad.inj h
     decide
    ·exact TR.noConfusion h
   ·by_cases d : bt s k = 92
    ·by_cases e0 : (esc3 s k).2 = 0
     ·rw [txS_e0 s f k l hlt d e0] at h
      obtain ⟨rfl, _⟩ := TR.bad.inj h
      decide
     ·rw [txS_e s f k l hlt d e0] at h
      exact ih (s.size - (k + (esc3 s k).2)) (by omega) _ _ rfl c0 a0 h
    ·by_cases e0 : iv (bt s k) < 32
     ·rw [txS_low s f k l hlt c d e0] at h
      obtain ⟨rfl, _⟩ := TR.bad.inj h
      decide
     ·rw [txS_go s f k l hlt c d e0] at h
      exact ih (s.size - (k + 1)) (by omega) _ _ rfl c0 a0 h
  ·rw [txS_end s f k l hlt] at h
   obtain ⟨rfl, _⟩ := TR.bad.inj h
   decide
def refV : RR → Value
 | .ok t => .tuple #[tv t, .int .i64 0, .int .i64 0]
 | .bad c a => .tuple #[tv tok0, .int .i64 (c : Int), .int .i64 (a : Int)]
set_option maxHeartbeats 4000000 in
theorem tokat_end (s : ByteArray) (w : World) (hs : s.size ≤ 4096) : Calls Tryz.prog 55 #[.string s, .int .i64 (s.size : Int)] w fun e w' => e = .returned (refV (.ok (tokE s.size))) ∧ Below w.heap.size w w' := by
 go_enter Tryz.func55, Tryz.ntmps55
 go_upto_region 1 with fail
 have RC0 := hid (show Rc w.heap.size (w.alloc (.cells zcells 53)) from heap_alloc_new w _)
 have BL0 := hid (belowA w (.cells zcells 53))
 have hZ0 : (w.alloc (.cells zcells 53)).heap.size = w.heap.size + 1 := by simp
 unfold zcells at RC0 BL0 hZ0
 generalize w.alloc (.cells #[.int .i64 0, .string ⟨#[]⟩, .int .i64 0, .int .i64 0, .int .i64 0] 53) = W at *
 have ⟨⟨q0, q1, q2, q3, q4⟩, f0, f1, f2, f3, f4⟩ := Rc.facts RC0.out
 go_wp2_with fail
 (try simp only [Exit.inBlock, Exit.then])
 refine bodyPost_ret (v := refV (.ok (tokE s.size))) ?_ rfl ⟨rfl, below_put5 BL0.out _ _ _ _ _ _ (Nat.le_refl _)⟩
 rw [results_cell_tmp2 rfl]
 go_simp
 first | rfl | exact ⟨rfl, rfl⟩ | exact ⟨rfl, rfl, rfl⟩
set_option maxHeartbeats 4000000 in
theorem tokat_text (s : ByteArray) (k : Nat) (w : World) (hs : s.size ≤ 4096) (hk : k < s.size) (c34 : bt s k = 34) : Calls Tryz.prog 55 #[.string s, .int .i64 (k : Int)] w fun e w' => e = .returned (refV ((txS s k (k + 1) []).rr k)) ∧ Below w.heap.size w w' := by
 have hc := iv_get s k hk
 have hdk : decide (s.size ≤ k) = false := by simp; omega
 rw [c34, show iv 34 = 34 from rfl] at hc
 have HT := hid (fun W => textat_any s k W hs hk)
 have hnz := txS_nz s k (k + 1) []
 clear c34
 generalize txS s k (k + 1) [] = R at *
 go_enter Tryz.func55, Tryz.ntmps55
 go_upto_region 1 with fail
 have RC0 := hid (show Rc w.heap.size (w.alloc (.cells zcells 53)) from heap_alloc_new w _)
 have BL0 := hid (belowA w (.cells zcells 53))
 have hZ0 : (w.alloc (.cells zcells 53)).heap.size = w.heap.size + 1 := by simp
 unfold zcells at RC0 BL0 hZ0
 generalize w.alloc (.cells #[.int .i64 0, .string ⟨#[]⟩, .int .i64 0, .int .i64 0, .int .i64 0] 53) = W at *
 cases R with
 | ok l e =>
  unfold textV at HT
  simp only [] at HT
  go_upto_region 6 with (go_at_call 76; refine (HT.out _).mono ?_; rintro x w1 ⟨rfl, l1⟩; have L1 := hid l1; clear l1)
  replace RC0 := hid (Rc.low RC0.out L1.out (by omega))
  have B1 := hid (BL0.out.trans (L1.out.mono (by omega)))
  have ⟨⟨q0, q1, q2, q3, q4⟩, f0, f1, f2, f3, f4⟩ := Rc.facts RC0.out
  go_wp2_with fail
  (try simp only [Exit.inBlock, Exit.then])
  refine bodyPost_ret (v := refV ((TR.ok l e).rr k)) ?_ rfl ⟨rfl, below_put5 B1.out _ _ _ _ _ _ (Nat.le_refl _)⟩
  rw [results_cell_tmp2 rfl]
  go_simp
  first | rfl | exact ⟨rfl, rfl⟩ | exact ⟨rfl, rfl, rfl⟩
 | bad c a =>
  have h0 : (c : Int) ≠ 0 := by have := hnz c a rfl; omega
  have h0' : ((c : Int) == 0) = false := by simpa using h0
  unfold textV at HT
  simp only [] at HT
  go_upto_region 6 with (go_at_call 76; refine (HT.out _).mono ?_; rintro x w1 ⟨rfl, l1⟩; have L1 := hid l1; clear l1)
  replace RC0 := hid (Rc.low RC0.out L1.out (by omega))
  have B1 := hid (BL0.out.trans (L1.out.mono (by omega)))
  have ⟨⟨q0, q1, q2, q3, q4⟩, f0, f1, f2, f3, f4⟩ := Rc.facts RC0.out
  go_wp2_with fail
  (try simp only [Exit.inBlock, Exit.then])
  refine bodyPost_ret (v := refV ((TR.bad c a).rr k)) ?_ rfl ⟨rfl, below_put5 B1.out _ _ _ _ _ _ (Nat.le_refl _)⟩
  rw [results_cell_tmp2 rfl]
  go_simp
  first | rfl | exact ⟨rfl, rfl⟩ | exact ⟨rfl, rfl, rfl⟩
theorem numTok_eq (s : ByteArray) (k j : Nat) (h : behW s (k + 1) = j) : numTok s k = (match numS (s.extract k j) with | none => .bad 114 k | some n => .ok ⟨2, ⟨#[]⟩, n, k, j⟩) := by
 unfold numTok
 rw [h]
 cases numS (s.extract k j) <;> rfl
theorem behW_gt (s : ByteArray) (k : Nat) (h : k < s.size) (c : inwB (iv (bt s k)) = true) : k < behW s k := by
 rw [behW_go s k h c]
 have := (behW_in s _ (k + 1) rfl).1
 omega
set_option maxHeartbeats 8000000 in
theorem tokat_word (s : ByteArray) (k : Nat) (w : World) (hs : s.size ≤ 4096) (hk : k < s.size) (ci : inwB (iv (bt s k)) = true) (cd : digB (iv (bt s k)) = false) : Calls Tryz.prog 55 #[.string s, .int .i64 (k : Int)] w fun e w' => e = .returned (refV (.ok ⟨3, s.extract k (behW s k), 0, k, behW s k⟩)) ∧ Below w.heap.size w w' := by
 have hc := iv_get s k hk
 have hdk : decide (s.size ≤ k) = false := by simp; omega
 have HI0 := hid ci
 have x34 : ¬ iv (bt s k) = 34 := by intro e; rw [e] at ci; exact absurd ci (by decide)
 have x45 : ¬ iv (bt s k) = 45 := by intro e; rw [e] at ci; exact absurd ci (by decide)
 have HD := hid (fun W => rdig_any (iv (bt s k)) W)
 rw [cd] at HD
 obtain ⟨x, hx⟩ : ∃ x, iv (bt s k) = x := ⟨_, rfl⟩
 rw [hx] at hc x34 x45 HD
 have x34' : (x == 34) = false := by simpa using x34
 have x45' : (x == 45) = false := by simpa using x45
 clear hx ci cd
 go_enter Tryz.func55, Tryz.ntmps55
 go_upto_region 1 with fail
 have RC0 := hid (show Rc w.heap.size (w.alloc (.cells zcells 53)) from heap_alloc_new w _)
 have BL0 := hid (belowA w (.cells zcells 53))
 have hZ0 : (w.alloc (.cells zcells 53)).heap.size = w.heap.size + 1 := by simp
 unfold zcells at RC0 BL0 hZ0
 generalize w.alloc (.cells #[.int .i64 0, .string ⟨#[]⟩, .int .i64 0, .int .i64 0, .int .i64 0] 53) = W at *
 have ⟨⟨q0, q1, q2, q3, q4⟩, f0, f1, f2, f3, f4⟩ := Rc.facts RC0.out
 go_wp2_with fail
 go_loop [12] (fun i => ∃ j : Nat, j ≤ s.size ∧ i = .int .i64 j ∧ Hid (behW s (k) = behW s j)) (fun i => s.size - (intOf i).toNat)
 case atStart => exact ⟨k, by omega, by first | rfl | go_num, hid rfl⟩
 case round =>
  obtain ⟨j, hj, rfl, HJ⟩ := hrel
  by_cases hlt : j < s.size
  ·have hcj := iv_get s j hlt
   obtain ⟨y, hy⟩ : ∃ y, iv (bt s j) = y := ⟨_, rfl⟩
   rw [hy] at hcj
   have HI := hid (fun W => rinw_any y W)
   cases ci : inwB y
   ·have HJ := hid (HJ.out.trans (behW_no s j hlt (by rw [hy]; exact ci)))
    rw [ci] at HI
    clear hy ci
    have HGT := hid (behW_gt s k hk HI0.out)
    rw [HJ.out] at HGT
    have hgt : (k : Int) < j := by have := HGT.out; omega
    have hgj : k < j := HGT.out
    go_wp2_with (first | (go_at_call 79; refine (HI.out _).mono ?_; rintro e w1 ⟨rfl, hww⟩; have hw2 := hww.symm; clear hww; subst hw2) | (go_at_call 77; refine (HD.out _).mono ?_; rintro e w1 ⟨rfl, hww⟩; have hw2 := hww.symm; clear hww; subst hw2))
    (try simp only [Exit.inBlock, Exit.then])
    refine bodyPost_ret (v := refV (.ok ⟨3, s.extract k j, 0, k, j⟩)) ?_ rfl ⟨by rw [HJ.out], below_put5 BL0.out _ _ _ _ _ _ (Nat.le_refl _)⟩
    rw [results_cell_tmp2 rfl]
    go_simp
    first | rfl | exact ⟨rfl, rfl⟩ | exact ⟨rfl, rfl, rfl⟩
   ·have HJ := hid (HJ.out.trans (behW_go s j hlt (by rw [hy]; exact ci)))
    rw [ci] at HI
    clear hy ci
    go_wp2_with (go_at_call 79; refine (HI.out _).mono ?_; rintro e w1 ⟨rfl, hww⟩; have hw2 := hww.symm; clear hww; subst hw2)
    exact ⟨⟨j + 1, by omega, by go_num, HJ⟩, by simp [intOf]; omega⟩
  ·have HJ := hid (HJ.out.trans (behW_end s j hlt))
   have HGT := hid (behW_gt s k hk HI0.out)
   rw [HJ.out] at HGT
   have hgt : (k : Int) < j := by have := HGT.out; omega
   have hgj : k < j := HGT.out
   go_wp2_with (first | fail | (go_at_call 77; refine (HD.out _).mono ?_; rintro e w1 ⟨rfl, hww⟩; have hw2 := hww.symm; clear hww; subst hw2))
   (try simp only [Exit.inBlock, Exit.then])
   refine bodyPost_ret (v := refV (.ok ⟨3, s.extract k j, 0, k, j⟩)) ?_ rfl ⟨by rw [HJ.out], below_put5 BL0.out _ _ _ _ _ _ (Nat.le_refl _)⟩
   rw [results_cell_tmp2 rfl]
   go_simp
   first | rfl | exact ⟨rfl, rfl⟩ | exact ⟨rfl, rfl, rfl⟩
set_option maxHeartbeats 8000000 in
theorem tokat_digit (s : ByteArray) (k : Nat) (w : World) (hs : s.size ≤ 4096) (hk : k < s.size) (cd : digB (iv (bt s k)) = true) : Calls Tryz.prog 55 #[.string s, .int .i64 (k : Int)] w fun e w' => e = .returned (refV (numTok s k)) ∧ Below w.heap.size w w' := by
 have hc := iv_get s k hk
 have hdk : decide (s.size ≤ k) = false := by simp; omega
 have HGT := hid (behW_gt s k hk (dig_inw cd))
 have HB1 := hid (behW_go s k hk (dig_inw cd)).symm
 have x34 : ¬ iv (bt s k) = 34 := by intro e; rw [e] at cd; exact absurd cd (by decide)
 have x45 : ¬ iv (bt s k) = 45 := by intro e; rw [e] at cd; exact absurd cd (by decide)
 have HD := hid (fun W => rdig_any (iv (bt s k)) W)
 rw [cd] at HD
 obtain ⟨x, hx⟩ : ∃ x, iv (bt s k) = x := ⟨_, rfl⟩
 rw [hx] at hc x34 x45 HD
 have x34' : (x == 34) = false := by simpa using x34
 have x45' : (x == 45) = false := by simpa using x45
 clear hx cd
 go_enter Tryz.func55, Tryz.ntmps55
 go_upto_region 1 with fail
 have RC0 := hid (show Rc w.heap.size (w.alloc (.cells zcells 53)) from heap_alloc_new w _)
 have BL0 := hid (belowA w (.cells zcells 53))
 have hZ0 : (w.alloc (.cells zcells 53)).heap.size = w.heap.size + 1 := by simp
 unfold zcells at RC0 BL0 hZ0
 generalize w.alloc (.cells #[.int .i64 0, .string ⟨#[]⟩, .int .i64 0, .int .i64 0, .int .i64 0] 53) = W at *
 have ⟨⟨q0, q1, q2, q3, q4⟩, f0, f1, f2, f3, f4⟩ := Rc.facts RC0.out
 go_wp2_with fail
 go_loop [12] (fun i => ∃ j : Nat, j ≤ s.size ∧ i = .int .i64 j ∧ Hid (behW s (k) = behW s j)) (fun i => s.size - (intOf i).toNat)
 case atStart => exact ⟨k, by omega, by first | rfl | go_num, hid rfl⟩
 case round =>
  obtain ⟨j, hj, rfl, HJ⟩ := hrel
  by_cases hlt : j < s.size
  ·have hcj := iv_get s j hlt
   obtain ⟨y, hy⟩ : ∃ y, iv (bt s j) = y := ⟨_, rfl⟩
   rw [hy] at hcj
   have HI := hid (fun W => rinw_any y W)
   cases ci : inwB y
   ·have HJ := hid (HJ.out.trans (behW_no s j hlt (by rw [hy]; exact ci)))
    rw [ci] at HI
    clear hy ci
    have HN := hid (fun W => rnumber_any (s.extract k j) W (by simp; omega))
    have hgj : k < j := by rw [← HJ.out]; exact HGT.out
    have hgt : (k : Int) < j := by omega
    have HT := hid (numTok_eq s k j (HB1.out.trans HJ.out))
    generalize numS (s.extract k j) = R at *
    cases R with
    | some n =>
     unfold numV at HN
     simp only [] at HN
     go_wp2_with (first | (go_at_call 79; refine (HI.out _).mono ?_; rintro e w1 ⟨rfl, hww⟩; have hw2 := hww.symm; clear hww; subst hw2) | (go_at_call 80; refine (HN.out _).mono ?_; rintro e w1 ⟨rfl, hww⟩; have hw2 := hww.symm; clear hww; subst hw2) | (go_at_call 77; refine (HD.out _).mono ?_; rintro e w1 ⟨rfl, hww⟩; have hw2 := hww.symm; clear hww; subst hw2))
     (try simp only [Exit.inBlock, Exit.then])
     refine bodyPost_ret (v := refV (.ok ⟨2, ⟨#[]⟩, n, k, j⟩)) ?_ rfl ⟨congrArg (fun r => Ending.returned (refV r)) HT.out.symm, below_put5 BL0.out _ _ _ _ _ _ (Nat.le_refl _)⟩
     rw [results_cell_tmp2 rfl]
     go_simp
     first | rfl | exact ⟨rfl, rfl⟩ | exact ⟨rfl, rfl, rfl⟩
    | none =>
     unfold numV at HN
     simp only [] at HN
     go_wp2_with (first | (go_at_call 79; refine (HI.out _).mono ?_; rintro e w1 ⟨rfl, hww⟩; have hw2 := hww.symm; clear hww; subst hw2) | (go_at_call 80; refine (HN.out _).mono ?_; rintro e w1 ⟨rfl, hww⟩; have hw2 := hww.symm; clear hww; subst hw2) | (go_at_call 77; refine (HD.out _).mono ?_; rintro e w1 ⟨rfl, hww⟩; have hw2 := hww.symm; clear hww; subst hw2))
     (try simp only [Exit.inBlock, Exit.then])
     refine bodyPost_ret (v := refV (.bad 114 k)) ?_ rfl ⟨congrArg (fun r => Ending.returned (refV r)) HT.out.symm, below_put5 BL0.out _ _ _ _ _ _ (Nat.le_refl _)⟩
     rw [results_cell_tmp2 rfl]
     go_simp
     first | rfl | exact ⟨rfl, rfl⟩ | exact ⟨rfl, rfl, rfl⟩
   ·have HJ := hid (HJ.out.trans (behW_go s j hlt (by rw [hy]; exact ci)))
    rw [ci] at HI
    clear hy ci
    go_wp2_with (go_at_call 79; refine (HI.out _).mono ?_; rintro e w1 ⟨rfl, hww⟩; have hw2 := hww.symm; clear hww; subst hw2)
    exact ⟨⟨j + 1, by omega, by go_num, HJ⟩, by simp [intOf]; omega⟩
  ·have HJ := hid (HJ.out.trans (behW_end s j hlt))
   have HN := hid (fun W => rnumber_any (s.extract k j) W (by simp; omega))
   have hgj : k < j := by rw [← HJ.out]; exact HGT.out
   have hgt : (k : Int) < j := by omega
   have HT := hid (numTok_eq s k j (HB1.out.trans HJ.out))
   generalize numS (s.extract k j) = R at *
   cases R with
   | some n =>
    unfold numV at HN
    simp only [] at HN
    go_wp2_with (first | fail | (go_at_call 80; refine (HN.out _).mono ?_; rintro e w1 ⟨rfl, hww⟩; have hw2 := hww.symm; clear hww; subst hw2) | (go_at_call 77; refine (HD.out _).mono ?_; rintro e w1 ⟨rfl, hww⟩; have hw2 := hww.symm; clear hww; subst hw2))
    (try simp only [Exit.inBlock, Exit.then])
    refine bodyPost_ret (v := refV (.ok ⟨2, ⟨#[]⟩, n, k, j⟩)) ?_ rfl ⟨congrArg (fun r => Ending.returned (refV r)) HT.out.symm, below_put5 BL0.out _ _ _ _ _ _ (Nat.le_refl _)⟩
    rw [results_cell_tmp2 rfl]
    go_simp
    first | rfl | exact ⟨rfl, rfl⟩ | exact ⟨rfl, rfl, rfl⟩
   | none =>
    unfold numV at HN
    simp only [] at HN
    go_wp2_with (first | fail | (go_at_call 80; refine (HN.out _).mono ?_; rintro e w1 ⟨rfl, hww⟩; have hw2 := hww.symm; clear hww; subst hw2) | (go_at_call 77; refine (HD.out _).mono ?_; rintro e w1 ⟨rfl, hww⟩; have hw2 := hww.symm; clear hww; subst hw2))
    (try simp only [Exit.inBlock, Exit.then])
    refine bodyPost_ret (v := refV (.bad 114 k)) ?_ rfl ⟨congrArg (fun r => Ending.returned (refV r)) HT.out.symm, below_put5 BL0.out _ _ _ _ _ _ (Nat.le_refl _)⟩
    rw [results_cell_tmp2 rfl]
    go_simp
    first | rfl | exact ⟨rfl, rfl⟩ | exact ⟨rfl, rfl, rfl⟩
set_option maxHeartbeats 8000000 in
theorem tokat_minus (s : ByteArray) (k : Nat) (w : World) (hs : s.size ≤ 4096) (hk : k < s.size) (c45 : bt s k = 45) (cd : digB (iv (bt s (k + 1))) = true) : Calls Tryz.prog 55 #[.string s, .int .i64 (k : Int)] w fun e w' => e = .returned (refV (numTok s k)) ∧ Below w.heap.size w w' := by
 have hc := iv_get s k hk
 have hdk : decide (s.size ≤ k) = false := by simp; omega
 rw [c45, show iv 45 = 45 from rfl] at hc
 have HGT := hid (show k < behW s (k + 1) by have := (behW_in s _ (k + 1) rfl).1; omega)
 have HBY := hid (fun W => rbyte_any s (k + 1) W)
 rw [show ((k + 1 : Nat) : Int) = (k : Int) + 1 by omega] at HBY
 have HD := hid (fun W => rdig_any (iv (bt s (k + 1))) W)
 rw [cd] at HD
 generalize iv (bt s (k + 1)) = y0 at *
 clear cd c45
 go_enter Tryz.func55, Tryz.ntmps55
 go_upto_region 1 with fail
 have RC0 := hid (show Rc w.heap.size (w.alloc (.cells zcells 53)) from heap_alloc_new w _)
 have BL0 := hid (belowA w (.cells zcells 53))
 have hZ0 : (w.alloc (.cells zcells 53)).heap.size = w.heap.size + 1 := by simp
 unfold zcells at RC0 BL0 hZ0
 generalize w.alloc (.cells #[.int .i64 0, .string ⟨#[]⟩, .int .i64 0, .int .i64 0, .int .i64 0] 53) = W at *
 have ⟨⟨q0, q1, q2, q3, q4⟩, f0, f1, f2, f3, f4⟩ := Rc.facts RC0.out
 go_wp2_with (first | (go_at_call 77; refine (HD.out _).mono ?_; rintro e w1 ⟨rfl, hww⟩; have hw2 := hww.symm; clear hww; subst hw2) | (go_at_call 78; refine (HBY.out _).mono ?_; rintro e w1 ⟨rfl, hww⟩; have hw2 := hww.symm; clear hww; subst hw2))
 go_loop [12] (fun i => ∃ j : Nat, j ≤ s.size ∧ i = .int .i64 j ∧ Hid (behW s (k + 1) = behW s j)) (fun i => s.size - (intOf i).toNat)
 case atStart => exact ⟨k + 1, by omega, by first | rfl | go_num, hid rfl⟩
 case round =>
  obtain ⟨j, hj, rfl, HJ⟩ := hrel
  by_cases hlt : j < s.size
  ·have hcj := iv_get s j hlt
   obtain ⟨y, hy⟩ : ∃ y, iv (bt s j) = y := ⟨_, rfl⟩
   rw [hy] at hcj
   have HI := hid (fun W => rinw_any y W)
   cases ci : inwB y
   ·have HJ := hid (HJ.out.trans (behW_no s j hlt (by rw [hy]; exact ci)))
    rw [ci] at HI
    clear hy ci
    have HN := hid (fun W => rnumber_any (s.extract k j) W (by simp; omega))
    have hgj : k < j := by rw [← HJ.out]; exact HGT.out
    have hgt : (k : Int) < j := by omega
    have HT := hid (numTok_eq s k j (HJ.out))
    generalize numS (s.extract k j) = R at *
    cases R with
    | some n =>
     unfold numV at HN
     simp only [] at HN
     go_wp2_with (first | (go_at_call 79; refine (HI.out _).mono ?_; rintro e w1 ⟨rfl, hww⟩; have hw2 := hww.symm; clear hww; subst hw2) | (go_at_call 80; refine (HN.out _).mono ?_; rintro e w1 ⟨rfl, hww⟩; have hw2 := hww.symm; clear hww; subst hw2))
     (try simp only [Exit.inBlock, Exit.then])
     refine bodyPost_ret (v := refV (.ok ⟨2, ⟨#[]⟩, n, k, j⟩)) ?_ rfl ⟨congrArg (fun r => Ending.returned (refV r)) HT.out.symm, below_put5 BL0.out _ _ _ _ _ _ (Nat.le_refl _)⟩
     rw [results_cell_tmp2 rfl]
     go_simp
     first | rfl | exact ⟨rfl, rfl⟩ | exact ⟨rfl, rfl, rfl⟩
    | none =>
     unfold numV at HN
     simp only [] at HN
     go_wp2_with (first | (go_at_call 79; refine (HI.out _).mono ?_; rintro e w1 ⟨rfl, hww⟩; have hw2 := hww.symm; clear hww; subst hw2) | (go_at_call 80; refine (HN.out _).mono ?_; rintro e w1 ⟨rfl, hww⟩; have hw2 := hww.symm; clear hww; subst hw2))
     (try simp only [Exit.inBlock, Exit.then])
     refine bodyPost_ret (v := refV (.bad 114 k)) ?_ rfl ⟨congrArg (fun r => Ending.returned (refV r)) HT.out.symm, below_put5 BL0.out _ _ _ _ _ _ (Nat.le_refl _)⟩
     rw [results_cell_tmp2 rfl]
     go_simp
     first | rfl | exact ⟨rfl, rfl⟩ | exact ⟨rfl, rfl, rfl⟩
   ·have HJ := hid (HJ.out.trans (behW_go s j hlt (by rw [hy]; exact ci)))
    rw [ci] at HI
    clear hy ci
    go_wp2_with (go_at_call 79; refine (HI.out _).mono ?_; rintro e w1 ⟨rfl, hww⟩; have hw2 := hww.symm; clear hww; subst hw2)
    exact ⟨⟨j + 1, by omega, by go_num, HJ⟩, by simp [intOf]; omega⟩
  ·have HJ := hid (HJ.out.trans (behW_end s j hlt))
   have HN := hid (fun W => rnumber_any (s.extract k j) W (by simp; omega))
   have hgj : k < j := by rw [← HJ.out]; exact HGT.out
   have hgt : (k : Int) < j := by omega
   have HT := hid (numTok_eq s k j (HJ.out))
   generalize numS (s.extract k j) = R at *
   cases R with
   | some n =>
    unfold numV at HN
    simp only [] at HN
    go_wp2_with (first | fail | (go_at_call 80; refine (HN.out _).mono ?_; rintro e w1 ⟨rfl, hww⟩; have hw2 := hww.symm; clear hww; subst hw2))
    (try simp only [Exit.inBlock, Exit.then])
    refine bodyPost_ret (v := refV (.ok ⟨2, ⟨#[]⟩, n, k, j⟩)) ?_ rfl ⟨congrArg (fun r => Ending.returned (refV r)) HT.out.symm, below_put5 BL0.out _ _ _ _ _ _ (Nat.le_refl _)⟩
    rw [results_cell_tmp2 rfl]
    go_simp
    first | rfl | exact ⟨rfl, rfl⟩ | exact ⟨rfl, rfl, rfl⟩
   | none =>
    unfold numV at HN
    simp only [] at HN
    go_wp2_with (first | fail | (go_at_call 80; refine (HN.out _).mono ?_; rintro e w1 ⟨rfl, hww⟩; have hw2 := hww.symm; clear hww; subst hw2))
    (try simp only [Exit.inBlock, Exit.then])
    refine bodyPost_ret (v := refV (.bad 114 k)) ?_ rfl ⟨congrArg (fun r => Ending.returned (refV r)) HT.out.symm, below_put5 BL0.out _ _ _ _ _ _ (Nat.le_refl _)⟩
    rw [results_cell_tmp2 rfl]
    go_simp
    first | rfl | exact ⟨rfl, rfl⟩ | exact ⟨rfl, rfl, rfl⟩
end Go.Proofs.YtcldglilhhhdoaaGreatDoor.L
namespace Go.Proofs.YtcldglilhhhdoaaGreatDoor.L
open Go.RowKit Go.Shelf
set_option linter.unusedVariables false
set_option maxHeartbeats 8000000 in
theorem tokat_mark (s : ByteArray) (k : Nat) (w : World) (hs : s.size ≤ 4096) (hk : k < s.size) (c34 : bt s k ≠ 34) (c45 : bt s k ≠ 45) (ci : inwB (iv (bt s k)) = false) : Calls Tryz.prog 55 #[.string s, .int .i64 (k : Int)] w fun e w' => e = .returned (refV (markS s k)) ∧ Below w.heap.size w w' := by
 have hc := iv_get s k hk
 have hdk : decide (s.size ≤ k) = false := by simp; omega
 have HB0 := hid (behW_no s k hk ci)
 have x34' := ne_iv c34
 have x45' := ne_iv c45
 obtain ⟨x, hx⟩ : ∃ x, iv (bt s k) = x := ⟨_, rfl⟩
 rw [hx] at hc x34' x45'
 rw [show iv 34 = 34 from rfl] at x34'
 rw [show iv 45 = 45 from rfl] at x45'
 clear hx ci c34 c45
 go_enter Tryz.func55, Tryz.ntmps55
 go_upto_region 1 with fail
 have RC0 := hid (show Rc w.heap.size (w.alloc (.cells zcells 53)) from heap_alloc_new w _)
 have BL0 := hid (belowA w (.cells zcells 53))
 have hZ0 : (w.alloc (.cells zcells 53)).heap.size = w.heap.size + 1 := by simp
 unfold zcells at RC0 BL0 hZ0
 generalize w.alloc (.cells #[.int .i64 0, .string ⟨#[]⟩, .int .i64 0, .int .i64 0, .int .i64 0] 53) = W at *
 have ⟨⟨q0, q1, q2, q3, q4⟩, f0, f1, f2, f3, f4⟩ := Rc.facts RC0.out
 go_wp2_with fail
 go_loop [12] (fun i => ∃ j : Nat, j ≤ s.size ∧ i = .int .i64 j ∧ Hid (behW s (k) = behW s j)) (fun i => s.size - (intOf i).toNat)
 case atStart => exact ⟨k, by omega, by first | rfl | go_num, hid rfl⟩
 case round =>
  obtain ⟨j, hj, rfl, HJ⟩ := hrel
  by_cases hlt : j < s.size
  ·have hcj := iv_get s j hlt
   obtain ⟨y, hy⟩ : ∃ y, iv (bt s j) = y := ⟨_, rfl⟩
   rw [hy] at hcj
   have HI := hid (fun W => rinw_any y W)
   cases ci : inwB y
   ·have HJ := hid (HJ.out.trans (behW_no s j hlt (by rw [hy]; exact ci)))
    rw [ci] at HI
    clear hy ci
    have hjk : j = k := HJ.out.symm.trans HB0.out
    subst hjk
    go_wp2_with (first | (go_at_call 79; refine (HI.out _).mono ?_; rintro e w1 ⟨rfl, hww⟩; have hw2 := hww.symm; clear hww; subst hw2) | fail)

    go_loop [16, 17] (fun v u => ∃ i : Nat, i ≤ 17 ∧ v = .int .i64 i ∧ Hid (∀ a, a < i → ¬ hit s j (mkT a))) (fun v _ => 17 - (intOf v).toNat)
    case atStart => exact ⟨0, Nat.zero_le _, rfl, hid (fun a h => absurd h (by omega))⟩
    case round =>
     obtain ⟨i, hi, rfl, HM⟩ := hrel
     have HK := hid (fun W => rmarks_any i hi W)
     by_cases hl : i < 17
     ·obtain ⟨z1, z2, z3⟩ := mkT_ne hl
      have z3' : ((mkT i).toList == []) = false := by simpa using z3
      by_cases hh : hit s j (mkT i)
      ·have HT := hid (mark_hit hl hh HM.out)
       have h4 := hh.1
       have h5 := hh.2
       generalize mkT i = m at *
       have h4' : (j : Int) + m.size ≤ s.size := by omega
       clear hh
       go_wp2_with (go_at_call 81; refine (HK.out _).mono ?_; rintro e w1 ⟨rfl, hww⟩; have hw2 := hww.symm; clear hww; subst hw2)
       (try simp only [Exit.inBlock, Exit.then])
       refine bodyPost_ret (v := refV (.ok ⟨4, m, 0, j, j + m.size⟩)) ?_ rfl ⟨congrArg (fun r => Ending.returned (refV r)) HT.out.symm, below_put5 BL0.out _ _ _ _ _ _ (Nat.le_refl _)⟩
       rw [results_cell_tmp2 rfl]
       go_simp
       first | rfl | exact ⟨rfl, rfl⟩ | exact ⟨rfl, rfl, rfl⟩
      ·have HM2 := hid (show ∀ a, a < i + 1 → ¬ hit s j (mkT a) by
        intro a ha
        by_cases e : a = i
        ·rw [e]; exact hh
        ·exact HM.out a (by omega))
       unfold hit at hh
       generalize mkT i = m at *
       by_cases h4 : j + m.size ≤ s.size
       ·have h4' : (j : Int) + m.size ≤ s.size := by omega
        have h5 : ((s.extract j (j + m.size)).toList == m.toList) = false := by
         have : ¬ (s.extract j (j + m.size)).toList = m.toList := fun e => hh ⟨h4, e⟩
         simpa using this
        clear hh
        go_wp2_with (go_at_call 81; refine (HK.out _).mono ?_; rintro e w1 ⟨rfl, hww⟩; have hw2 := hww.symm; clear hww; subst hw2)
        exact ⟨⟨i + 1, by omega, by go_num, HM2⟩, by simp [intOf]; omega⟩
       ·have h4' : ¬ (j : Int) + m.size ≤ s.size := by omega
        clear hh
        go_wp2_with (go_at_call 81; refine (HK.out _).mono ?_; rintro e w1 ⟨rfl, hww⟩; have hw2 := hww.symm; clear hww; subst hw2)
        exact ⟨⟨i + 1, by omega, by go_num, HM2⟩, by simp [intOf]; omega⟩
     ·have h17 : i = 17 := by omega
      subst h17
      have HT := hid (mark_miss hk HM.out)
      rw [show mkT 17 = ⟨#[]⟩ from rfl] at HK
      go_wp2_with (go_at_call 81; refine (HK.out _).mono ?_; rintro e w1 ⟨rfl, hww⟩; have hw2 := hww.symm; clear hww; subst hw2)
      (try simp only [Exit.inBlock, Exit.then])
      refine bodyPost_ret (v := refV (.bad 111 j)) ?_ rfl ⟨congrArg (fun r => Ending.returned (refV r)) HT.out.symm, below_put5 BL0.out _ _ _ _ _ _ (Nat.le_refl _)⟩
      rw [results_cell_tmp2 rfl]
      go_simp
      first | rfl | exact ⟨rfl, rfl⟩ | exact ⟨rfl, rfl, rfl⟩
   ·have HJ := hid (HJ.out.trans (behW_go s j hlt (by rw [hy]; exact ci)))
    rw [ci] at HI
    clear hy ci
    go_wp2_with (go_at_call 79; refine (HI.out _).mono ?_; rintro e w1 ⟨rfl, hww⟩; have hw2 := hww.symm; clear hww; subst hw2)
    exact ⟨⟨j + 1, by omega, by go_num, HJ⟩, by simp [intOf]; omega⟩
  ·have HJ := hid (HJ.out.trans (behW_end s j hlt))
   exact absurd (show j < s.size by rw [← HJ.out, HB0.out]; exact hk) hlt
set_option maxHeartbeats 8000000 in
theorem tokat_lone (s : ByteArray) (k : Nat) (w : World) (hs : s.size ≤ 4096) (hk : k < s.size) (c45 : bt s k = 45) (cd : digB (iv (bt s (k + 1))) = false) : Calls Tryz.prog 55 #[.string s, .int .i64 (k : Int)] w fun e w' => e = .returned (refV (markS s k)) ∧ Below w.heap.size w w' := by
 have hc := iv_get s k hk
 have hdk : decide (s.size ≤ k) = false := by simp; omega
 have HB0 := hid (behW_no s k hk (by rw [c45]; decide))
 rw [c45, show iv 45 = 45 from rfl] at hc
 have HBY := hid (fun W => rbyte_any s (k + 1) W)
 rw [show ((k + 1 : Nat) : Int) = (k : Int) + 1 by omega] at HBY
 have HD := hid (fun W => rdig_any (iv (bt s (k + 1))) W)
 rw [cd] at HD
 generalize iv (bt s (k + 1)) = y0 at *
 clear cd c45
 go_enter Tryz.func55, Tryz.ntmps55
 go_upto_region 1 with fail
 have RC0 := hid (show Rc w.heap.size (w.alloc (.cells zcells 53)) from heap_alloc_new w _)
 have BL0 := hid (belowA w (.cells zcells 53))
 have hZ0 : (w.alloc (.cells zcells 53)).heap.size = w.heap.size + 1 := by simp
 unfold zcells at RC0 BL0 hZ0
 generalize w.alloc (.cells #[.int .i64 0, .string ⟨#[]⟩, .int .i64 0, .int .i64 0, .int .i64 0] 53) = W at *
 have ⟨⟨q0, q1, q2, q3, q4⟩, f0, f1, f2, f3, f4⟩ := Rc.facts RC0.out
 go_wp2_with (first | (go_at_call 77; refine (HD.out _).mono ?_; rintro e w1 ⟨rfl, hww⟩; have hw2 := hww.symm; clear hww; subst hw2) | (go_at_call 78; refine (HBY.out _).mono ?_; rintro e w1 ⟨rfl, hww⟩; have hw2 := hww.symm; clear hww; subst hw2))
 go_loop [12] (fun i => ∃ j : Nat, j ≤ s.size ∧ i = .int .i64 j ∧ Hid (behW s (k) = behW s j)) (fun i => s.size - (intOf i).toNat)
 case atStart => exact ⟨k, by omega, by first | rfl | go_num, hid rfl⟩
 case round =>
  obtain ⟨j, hj, rfl, HJ⟩ := hrel
  by_cases hlt : j < s.size
  ·have hcj := iv_get s j hlt
   obtain ⟨y, hy⟩ : ∃ y, iv (bt s j) = y := ⟨_, rfl⟩
   rw [hy] at hcj
   have HI := hid (fun W => rinw_any y W)
   cases ci : inwB y
   ·have HJ := hid (HJ.out.trans (behW_no s j hlt (by rw [hy]; exact ci)))
    rw [ci] at HI
    clear hy ci
    have hjk : j = k := HJ.out.symm.trans HB0.out
    subst hjk
    go_wp2_with (first | (go_at_call 79; refine (HI.out _).mono ?_; rintro e w1 ⟨rfl, hww⟩; have hw2 := hww.symm; clear hww; subst hw2) | fail)

    go_loop [16, 17] (fun v u => ∃ i : Nat, i ≤ 17 ∧ v = .int .i64 i ∧ Hid (∀ a, a < i → ¬ hit s j (mkT a))) (fun v _ => 17 - (intOf v).toNat)
    case atStart => exact ⟨0, Nat.zero_le _, rfl, hid (fun a h => absurd h (by omega))⟩
    case round =>
     obtain ⟨i, hi, rfl, HM⟩ := hrel
     have HK := hid (fun W => rmarks_any i hi W)
     by_cases hl : i < 17
     ·obtain ⟨z1, z2, z3⟩ := mkT_ne hl
      have z3' : ((mkT i).toList == []) = false := by simpa using z3
      by_cases hh : hit s j (mkT i)
      ·have HT := hid (mark_hit hl hh HM.out)
       have h4 := hh.1
       have h5 := hh.2
       generalize mkT i = m at *
       have h4' : (j : Int) + m.size ≤ s.size := by omega
       clear hh
       go_wp2_with (go_at_call 81; refine (HK.out _).mono ?_; rintro e w1 ⟨rfl, hww⟩; have hw2 := hww.symm; clear hww; subst hw2)
       (try simp only [Exit.inBlock, Exit.then])
       refine bodyPost_ret (v := refV (.ok ⟨4, m, 0, j, j + m.size⟩)) ?_ rfl ⟨congrArg (fun r => Ending.returned (refV r)) HT.out.symm, below_put5 BL0.out _ _ _ _ _ _ (Nat.le_refl _)⟩
       rw [results_cell_tmp2 rfl]
       go_simp
       first | rfl | exact ⟨rfl, rfl⟩ | exact ⟨rfl, rfl, rfl⟩
      ·have HM2 := hid (show ∀ a, a < i + 1 → ¬ hit s j (mkT a) by
        intro a ha
        by_cases e : a = i
        ·rw [e]; exact hh
        ·exact HM.out a (by omega))
       unfold hit at hh
       generalize mkT i = m at *
       by_cases h4 : j + m.size ≤ s.size
       ·have h4' : (j : Int) + m.size ≤ s.size := by omega
        have h5 : ((s.extract j (j + m.size)).toList == m.toList) = false := by
         have : ¬ (s.extract j (j + m.size)).toList = m.toList := fun e => hh ⟨h4, e⟩
         simpa using this
        clear hh
        go_wp2_with (go_at_call 81; refine (HK.out _).mono ?_; rintro e w1 ⟨rfl, hww⟩; have hw2 := hww.symm; clear hww; subst hw2)
        exact ⟨⟨i + 1, by omega, by go_num, HM2⟩, by simp [intOf]; omega⟩
       ·have h4' : ¬ (j : Int) + m.size ≤ s.size := by omega
        clear hh
        go_wp2_with (go_at_call 81; refine (HK.out _).mono ?_; rintro e w1 ⟨rfl, hww⟩; have hw2 := hww.symm; clear hww; subst hw2)
        exact ⟨⟨i + 1, by omega, by go_num, HM2⟩, by simp [intOf]; omega⟩
     ·have h17 : i = 17 := by omega
      subst h17
      have HT := hid (mark_miss hk HM.out)
      rw [show mkT 17 = ⟨#[]⟩ from rfl] at HK
      go_wp2_with (go_at_call 81; refine (HK.out _).mono ?_; rintro e w1 ⟨rfl, hww⟩; have hw2 := hww.symm; clear hww; subst hw2)
      (try simp only [Exit.inBlock, Exit.then])
      refine bodyPost_ret (v := refV (.bad 111 j)) ?_ rfl ⟨congrArg (fun r => Ending.returned (refV r)) HT.out.symm, below_put5 BL0.out _ _ _ _ _ _ (Nat.le_refl _)⟩
      rw [results_cell_tmp2 rfl]
      go_simp
      first | rfl | exact ⟨rfl, rfl⟩ | exact ⟨rfl, rfl, rfl⟩
   ·have HJ := hid (HJ.out.trans (behW_go s j hlt (by rw [hy]; exact ci)))
    rw [ci] at HI
    clear hy ci
    go_wp2_with (go_at_call 79; refine (HI.out _).mono ?_; rintro e w1 ⟨rfl, hww⟩; have hw2 := hww.symm; clear hww; subst hw2)
    exact ⟨⟨j + 1, by omega, by go_num, HJ⟩, by simp [intOf]; omega⟩
  ·have HJ := hid (HJ.out.trans (behW_end s j hlt))
   exact absurd (show j < s.size by rw [← HJ.out, HB0.out]; exact hk) hlt
theorem tokat_any (s : ByteArray) (k : Nat) (w : World) (hs : s.size ≤ 4096) (hk : k < s.size) : Calls Tryz.prog 55 #[.string s, .int .i64 (k : Int)] w fun e w' => e = .returned (refV (tokS s k)) ∧ Below w.heap.size w w' := by
 unfold tokS
 by_cases c34 : bt s k = 34
 ·rw [if_pos c34]
  exact tokat_text s k w hs hk c34
 ·rw [if_neg c34]
  by_cases cd : digB (iv (bt s k)) = true
  ·rw [if_pos (Or.inl cd)]
   exact tokat_digit s k w hs hk cd
  ·have cd' : digB (iv (bt s k)) = false := by simpa using cd
   by_cases c45 : bt s k = 45
   ·cases cn : digB (iv (bt s (k + 1)))
    ·rw [if_neg (fun h => h.elim cd (fun h => absurd h.2 (by decide))), if_neg (by rw [c45]; decide)]
     exact tokat_lone s k w hs hk c45 cn
    ·rw [if_pos (Or.inr ⟨c45, rfl⟩)]
     exact tokat_minus s k w hs hk c45 cn
   ·rw [if_neg (fun h => h.elim cd (fun h => c45 h.1))]
    cases ci : inwB (iv (bt s k))
    ·rw [if_neg (by decide)]
     exact tokat_mark s k w hs hk c34 c45 ci
    ·rw [if_pos rfl]
     exact tokat_word s k w hs hk ci cd'
end Go.Proofs.YtcldglilhhhdoaaGreatDoor.L
