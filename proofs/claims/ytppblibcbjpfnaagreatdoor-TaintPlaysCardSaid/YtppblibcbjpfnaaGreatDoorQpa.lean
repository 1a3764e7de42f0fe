import Derived.Test.YtppblibcbjpfnaaGreatDoorQtx
namespace Go.Proofs.YtppblibcbjpfnaaGreatDoor.L
open Go.RowKit
set_option linter.unusedVariables false
theorem box3_drew (w : World) (x y z k v f : Value) (t t' : TypeId) : Box3 ((w.alloc (.cells #[x, y, z] t)).alloc (.cells #[k, v, f] t')).drew w.heap.size x y z k v f := by
  have h := three_box w 0 x y z k v f t t'
  exact ⟨h.c0, h.c1, h.c2, h.d0, h.d1, h.d2, h.f0, h.f1, h.f2⟩
set_option maxHeartbeats 4000000 in
set_option maxRecDepth 100000 in
theorem qparse_long (s : ByteArray) (w : World) (hs : s.size ≤ maxLen) (g : 256 < s.size) : Calls Tryz.prog 17 #[.string s] w fun e w' => e = .returned (.tuple #[tv none3, .int .i64 43]) ∧ Below w.heap.size w w' := by
  have g' : (256 : Int) < (s.size : Int) := by omega
  unfold maxLen at hs
  simp only [tv, none3]
  go_enter Tryz.func17, Tryz.ntmps17
  go_wp2_with fail
  (try simp only [Exit.inBlock, Exit.then])
  refine bodyPost_ret (v := .tuple #[.agg #[.string ByteArray.empty, .string ByteArray.empty, .string ByteArray.empty], .int .i64 43]) ?_ rfl ⟨rfl, belowA _ _⟩
  rw [results_cell_tmp rfl]
  go_simp
  try rfl
set_option maxHeartbeats 4000000 in
set_option maxRecDepth 100000 in
theorem qparse_none (s : ByteArray) (w : World) (g : s.size ≤ 256) (h : lst s 58 = -1) : Calls Tryz.prog 17 #[.string s] w fun e w' => e = .returned (.tuple #[tv none3, .int .i64 43]) ∧ Below w.heap.size w w' := by
  have HL := hid (fun W => qlast_any s W (by unfold maxLen; omega))
  have g' : ¬ (256 : Int) < (s.size : Int) := by omega
  rw [h] at HL
  simp only [tv, none3]
  go_enter Tryz.func17, Tryz.ntmps17
  go_wp2_with fail
  refine (HL.out _).mono ?_
  rintro e w1 ⟨rfl, hww⟩; subst hww
  go_wp2_with fail
  (try simp only [Exit.inBlock, Exit.then])
  refine bodyPost_ret (v := .tuple #[.agg #[.string ByteArray.empty, .string ByteArray.empty, .string ByteArray.empty], .int .i64 43]) ?_ rfl ⟨rfl, belowA _ _⟩
  rw [results_cell_tmp rfl]
  go_simp
  try rfl
set_option maxHeartbeats 4000000 in
set_option maxRecDepth 100000 in
theorem qparse_plain_ok (s : ByteArray) (w : World) (i : Nat) (g : s.size ≤ 256) (h : lst s 58 = i) (hi : i < s.size) (h2 : idx (s.extract 0 i) 61 = -1) (hE : tE (s.extract 0 i, ByteArray.empty, s.extract (i + 1) s.size) = 0) : Calls Tryz.prog 17 #[.string s] w fun e w' => e = .returned (.tuple #[tv (s.extract 0 i, ByteArray.empty, s.extract (i + 1) s.size), .int .i64 0]) ∧ Below w.heap.size w w' := by
  have HL := hid (fun W => qlast_any s W (by unfold maxLen; omega))
  have g' : ¬ (256 : Int) < (s.size : Int) := by omega
  have hz : (s.extract 0 i).size = i := by rw [ByteArray.size_extract]; omega
  have HI := hid (fun W => qfirst_any (s.extract 0 i) W (by unfold maxLen; omega))
  rw [h] at HL
  rw [h2] at HI
  have HT := hid (fun W => qctaint_any (s.extract 0 i, ByteArray.empty, s.extract (i + 1) s.size) W (show (s.extract 0 i).size ≤ maxLen by unfold maxLen; omega) (show ByteArray.empty.size ≤ maxLen by unfold maxLen; decide))
  have g0 : (0 : Int) ≤ (i : Int) := by omega
  have gi : (i : Int) < (s.size : Int) := by omega
  have gi2 : (i : Int) ≤ (s.size : Int) := by omega
  have gi3 : (i : Int) + 1 ≤ (s.size : Int) := by omega
  rw [hE] at HT
  clear hE h h2
  simp only [tv] at *
  have BX0 := hid (box3_drew w (.string ⟨#[]⟩) (.string ⟨#[]⟩) (.string ⟨#[]⟩) (.string (s.extract 0 i)) (.string ⟨#[]⟩) (.string (s.extract (i + 1) s.size)) 25 25)
  have HB0 := hid (show Below w.heap.size w ((w.alloc (.cells #[.string ⟨#[]⟩, .string ⟨#[]⟩, .string ⟨#[]⟩] 25)).alloc (.cells #[.string (s.extract 0 i), .string ⟨#[]⟩, .string (s.extract (i + 1) s.size)] 25)).drew from (below2 w _ _).drew)
  go_enter Tryz.func17, Tryz.ntmps17
  go_wp2_with fail
  refine (HL.out _).mono ?_
  rintro e w1 ⟨rfl, hww⟩; subst hww
  go_wp2_with fail
  go_region
  go_wp2_with fail
  refine (HI.out _).mono ?_
  rintro e w1 ⟨rfl, hww⟩; subst hww
  go_wp2_with fail
  refine (HT.out _).mono ?_
  rintro e w2 ⟨rfl, hb⟩
  have BX := BX0.out.low hb (by simp)
  have HB := hid (HB0.out.trans (hb.mono HB0.out.size))
  obtain ⟨c0, c1, c2, d0, d1, d2, f0, f1, f2⟩ := BX
  clear hb
  go_wp2_with fail
  (try simp only [Exit.inBlock, Exit.then])
  refine bodyPost_ret (v := .tuple #[.agg #[.string (s.extract 0 i), .string ByteArray.empty, .string (s.extract (i + 1) s.size)], .int .i64 0]) ?_ rfl ⟨rfl, below_set3 HB.out _ _ _ _ (Nat.le_refl _)⟩
  rw [results_cell_tmp rfl]
  go_simp
  try rfl
set_option maxHeartbeats 4000000 in
set_option maxRecDepth 100000 in
theorem qparse_plain_bad (s : ByteArray) (w : World) (i : Nat) (g : s.size ≤ 256) (h : lst s 58 = i) (hi : i < s.size) (h2 : idx (s.extract 0 i) 61 = -1) (hE : tE (s.extract 0 i, ByteArray.empty, s.extract (i + 1) s.size) ≠ 0) : Calls Tryz.prog 17 #[.string s] w fun e w' => e = .returned (.tuple #[tv none3, .int .i64 (tE (s.extract 0 i, ByteArray.empty, s.extract (i + 1) s.size))]) ∧ Below w.heap.size w w' := by
  have HL := hid (fun W => qlast_any s W (by unfold maxLen; omega))
  have g' : ¬ (256 : Int) < (s.size : Int) := by omega
  have hz : (s.extract 0 i).size = i := by rw [ByteArray.size_extract]; omega
  have HI := hid (fun W => qfirst_any (s.extract 0 i) W (by unfold maxLen; omega))
  rw [h] at HL
  rw [h2] at HI
  have HT := hid (fun W => qctaint_any (s.extract 0 i, ByteArray.empty, s.extract (i + 1) s.size) W (show (s.extract 0 i).size ≤ maxLen by unfold maxLen; omega) (show ByteArray.empty.size ≤ maxLen by unfold maxLen; decide))
  have g0 : (0 : Int) ≤ (i : Int) := by omega
  have gi : (i : Int) < (s.size : Int) := by omega
  have gi2 : (i : Int) ≤ (s.size : Int) := by omega
  have gi3 : (i : Int) + 1 ≤ (s.size : Int) := by omega
  generalize tE (s.extract 0 i, ByteArray.empty, s.extract (i + 1) s.size) = er at *
  have hE' : (er != 0) = true := by simpa using hE
  clear hE h h2
  simp only [tv, none3] at *
  have BX0 := hid (box3_drew w (.string ⟨#[]⟩) (.string ⟨#[]⟩) (.string ⟨#[]⟩) (.string (s.extract 0 i)) (.string ⟨#[]⟩) (.string (s.extract (i + 1) s.size)) 25 25)
  have HB0 := hid (show Below w.heap.size w ((w.alloc (.cells #[.string ⟨#[]⟩, .string ⟨#[]⟩, .string ⟨#[]⟩] 25)).alloc (.cells #[.string (s.extract 0 i), .string ⟨#[]⟩, .string (s.extract (i + 1) s.size)] 25)).drew from (below2 w _ _).drew)
  go_enter Tryz.func17, Tryz.ntmps17
  go_wp2_with fail
  refine (HL.out _).mono ?_
  rintro e w1 ⟨rfl, hww⟩; subst hww
  go_wp2_with fail
  go_region
  go_wp2_with fail
  refine (HI.out _).mono ?_
  rintro e w1 ⟨rfl, hww⟩; subst hww
  go_wp2_with fail
  refine (HT.out _).mono ?_
  rintro e w2 ⟨rfl, hb⟩
  have BX := BX0.out.low hb (by simp)
  have HB := hid (HB0.out.trans (hb.mono HB0.out.size))
  obtain ⟨c0, c1, c2, d0, d1, d2, f0, f1, f2⟩ := BX
  clear hb
  go_wp2_with fail
  (try simp only [Exit.inBlock, Exit.then])
  refine bodyPost_ret (v := .tuple #[.agg #[.string ByteArray.empty, .string ByteArray.empty, .string ByteArray.empty], .int .i64 er]) ?_ rfl ⟨rfl, below_set3 HB.out _ _ _ _ (Nat.le_refl _)⟩
  rw [results_cell_tmp rfl]
  go_simp
  try rfl
set_option maxHeartbeats 4000000 in
set_option maxRecDepth 100000 in
theorem qparse_hole (s : ByteArray) (w : World) (i : Nat) (g : s.size ≤ 256) (h : lst s 58 = i) (hi : i < s.size) (j : Nat) (h2 : idx (s.extract 0 i) 61 = j) (hj : j < (s.extract 0 i).size) (hv : emB ((s.extract 0 i).extract (j + 1) (s.extract 0 i).size) = true) : Calls Tryz.prog 17 #[.string s] w fun e w' => e = .returned (.tuple #[tv none3, .int .i64 43]) ∧ Below w.heap.size w w' := by
  have HL := hid (fun W => qlast_any s W (by unfold maxLen; omega))
  have g' : ¬ (256 : Int) < (s.size : Int) := by omega
  have hz : (s.extract 0 i).size = i := by rw [ByteArray.size_extract]; omega
  have HI := hid (fun W => qfirst_any (s.extract 0 i) W (by unfold maxLen; omega))
  rw [h] at HL
  rw [h2] at HI
  rw [hz] at hj hv
  have HT := hid (fun W => qctaint_any (((s.extract 0 i).extract 0 j), ((s.extract 0 i).extract (j + 1) i), (s.extract (i + 1) s.size)) W (show ((s.extract 0 i).extract 0 j).size ≤ maxLen by rw [ByteArray.size_extract]; unfold maxLen; omega) (show ((s.extract 0 i).extract (j + 1) i).size ≤ maxLen by rw [ByteArray.size_extract]; unfold maxLen; omega))
  have g0 : (0 : Int) ≤ (i : Int) := by omega
  have gi : (i : Int) < (s.size : Int) := by omega
  have gi2 : (i : Int) ≤ (s.size : Int) := by omega
  have gi3 : (i : Int) + 1 ≤ (s.size : Int) := by omega
  have gj : (0 : Int) ≤ (j : Int) := by omega
  have gj2 : (j : Int) ≤ (i : Int) := by omega
  have gj3 : (j : Int) + 1 ≤ (i : Int) := by omega
  have hv' : ((s.extract 0 i).extract (j + 1) i).toList.isEmpty = true := hv
  clear hv h h2 HT
  simp only [tv, none3] at *
  go_enter Tryz.func17, Tryz.ntmps17
  go_wp2_with fail
  refine (HL.out _).mono ?_
  rintro e w1 ⟨rfl, hww⟩; subst hww
  go_wp2_with fail
  go_region
  go_wp2_with fail
  refine (HI.out _).mono ?_
  rintro e w1 ⟨rfl, hww⟩; subst hww
  go_wp2_with fail
  (try simp only [Exit.inBlock, Exit.then])
  refine bodyPost_ret (v := .tuple #[.agg #[.string ByteArray.empty, .string ByteArray.empty, .string ByteArray.empty], .int .i64 43]) ?_ rfl ⟨rfl, (below2 w _ _).drew⟩
  rw [results_cell_tmp rfl]
  go_simp
  try rfl
set_option maxHeartbeats 4000000 in
set_option maxRecDepth 100000 in
theorem qparse_sign_ok (s : ByteArray) (w : World) (i : Nat) (g : s.size ≤ 256) (h : lst s 58 = i) (hi : i < s.size) (j : Nat) (h2 : idx (s.extract 0 i) 61 = j) (hj : j < (s.extract 0 i).size) (hv : emB ((s.extract 0 i).extract (j + 1) (s.extract 0 i).size) = false) (hE : tE (((s.extract 0 i).extract 0 j), ((s.extract 0 i).extract (j + 1) (s.extract 0 i).size), (s.extract (i + 1) s.size)) = 0) : Calls Tryz.prog 17 #[.string s] w fun e w' => e = .returned (.tuple #[tv (((s.extract 0 i).extract 0 j), ((s.extract 0 i).extract (j + 1) (s.extract 0 i).size), (s.extract (i + 1) s.size)), .int .i64 0]) ∧ Below w.heap.size w w' := by
  have HL := hid (fun W => qlast_any s W (by unfold maxLen; omega))
  have g' : ¬ (256 : Int) < (s.size : Int) := by omega
  have hz : (s.extract 0 i).size = i := by rw [ByteArray.size_extract]; omega
  have HI := hid (fun W => qfirst_any (s.extract 0 i) W (by unfold maxLen; omega))
  rw [h] at HL
  rw [h2] at HI
  rw [hz] at hj hv hE ⊢
  have HT := hid (fun W => qctaint_any (((s.extract 0 i).extract 0 j), ((s.extract 0 i).extract (j + 1) i), (s.extract (i + 1) s.size)) W (show ((s.extract 0 i).extract 0 j).size ≤ maxLen by rw [ByteArray.size_extract]; unfold maxLen; omega) (show ((s.extract 0 i).extract (j + 1) i).size ≤ maxLen by rw [ByteArray.size_extract]; unfold maxLen; omega))
  have g0 : (0 : Int) ≤ (i : Int) := by omega
  have gi : (i : Int) < (s.size : Int) := by omega
  have gi2 : (i : Int) ≤ (s.size : Int) := by omega
  have gi3 : (i : Int) + 1 ≤ (s.size : Int) := by omega
  have gj : (0 : Int) ≤ (j : Int) := by omega
  have gj2 : (j : Int) ≤ (i : Int) := by omega
  have gj3 : (j : Int) + 1 ≤ (i : Int) := by omega
  have hv' : ((s.extract 0 i).extract (j + 1) i).toList.isEmpty = false := hv
  rw [hE] at HT
  clear hv hE h h2
  simp only [tv] at *
  have BX0 := hid (box3_drew w (.string ⟨#[]⟩) (.string ⟨#[]⟩) (.string ⟨#[]⟩) (.string ((s.extract 0 i).extract 0 j)) (.string ((s.extract 0 i).extract (j + 1) i)) (.string (s.extract (i + 1) s.size)) 25 25)
  have HB0 := hid (show Below w.heap.size w ((w.alloc (.cells #[.string ⟨#[]⟩, .string ⟨#[]⟩, .string ⟨#[]⟩] 25)).alloc (.cells #[.string ((s.extract 0 i).extract 0 j), .string ((s.extract 0 i).extract (j + 1) i), .string (s.extract (i + 1) s.size)] 25)).drew from (below2 w _ _).drew)
  go_enter Tryz.func17, Tryz.ntmps17
  go_wp2_with fail
  refine (HL.out _).mono ?_
  rintro e w1 ⟨rfl, hww⟩; subst hww
  go_wp2_with fail
  go_region
  go_wp2_with fail
  refine (HI.out _).mono ?_
  rintro e w1 ⟨rfl, hww⟩; subst hww
  go_wp2_with fail
  refine (HT.out _).mono ?_
  rintro e w2 ⟨rfl, hb⟩
  have BX := BX0.out.low hb (by simp)
  have HB := hid (HB0.out.trans (hb.mono HB0.out.size))
  obtain ⟨c0, c1, c2, d0, d1, d2, f0, f1, f2⟩ := BX
  clear hb
  go_wp2_with fail
  (try simp only [Exit.inBlock, Exit.then])
  refine bodyPost_ret (v := .tuple #[.agg #[.string ((s.extract 0 i).extract 0 j), .string ((s.extract 0 i).extract (j + 1) i), .string (s.extract (i + 1) s.size)], .int .i64 0]) ?_ rfl ⟨rfl, below_set3 HB.out _ _ _ _ (Nat.le_refl _)⟩
  rw [results_cell_tmp rfl]
  go_simp
  try rfl
set_option maxHeartbeats 4000000 in
set_option maxRecDepth 100000 in
theorem qparse_sign_bad (s : ByteArray) (w : World) (i : Nat) (g : s.size ≤ 256) (h : lst s 58 = i) (hi : i < s.size) (j : Nat) (h2 : idx (s.extract 0 i) 61 = j) (hj : j < (s.extract 0 i).size) (hv : emB ((s.extract 0 i).extract (j + 1) (s.extract 0 i).size) = false) (hE : tE (((s.extract 0 i).extract 0 j), ((s.extract 0 i).extract (j + 1) (s.extract 0 i).size), (s.extract (i + 1) s.size)) ≠ 0) : Calls Tryz.prog 17 #[.string s] w fun e w' => e = .returned (.tuple #[tv none3, .int .i64 (tE (((s.extract 0 i).extract 0 j), ((s.extract 0 i).extract (j + 1) (s.extract 0 i).size), (s.extract (i + 1) s.size)))]) ∧ Below w.heap.size w w' := by
  have HL := hid (fun W => qlast_any s W (by unfold maxLen; omega))
  have g' : ¬ (256 : Int) < (s.size : Int) := by omega
  have hz : (s.extract 0 i).size = i := by rw [ByteArray.size_extract]; omega
  have HI := hid (fun W => qfirst_any (s.extract 0 i) W (by unfold maxLen; omega))
  rw [h] at HL
  rw [h2] at HI
  rw [hz] at hj hv hE ⊢
  have HT := hid (fun W => qctaint_any (((s.extract 0 i).extract 0 j), ((s.extract 0 i).extract (j + 1) i), (s.extract (i + 1) s.size)) W (show ((s.extract 0 i).extract 0 j).size ≤ maxLen by rw [ByteArray.size_extract]; unfold maxLen; omega) (show ((s.extract 0 i).extract (j + 1) i).size ≤ maxLen by rw [ByteArray.size_extract]; unfold maxLen; omega))
  have g0 : (0 : Int) ≤ (i : Int) := by omega
  have gi : (i : Int) < (s.size : Int) := by omega
  have gi2 : (i : Int) ≤ (s.size : Int) := by omega
  have gi3 : (i : Int) + 1 ≤ (s.size : Int) := by omega
  have gj : (0 : Int) ≤ (j : Int) := by omega
  have gj2 : (j : Int) ≤ (i : Int) := by omega
  have gj3 : (j : Int) + 1 ≤ (i : Int) := by omega
  have hv' : ((s.extract 0 i).extract (j + 1) i).toList.isEmpty = false := hv
  clear hv
  generalize tE (((s.extract 0 i).extract 0 j), ((s.extract 0 i).extract (j + 1) i), (s.extract (i + 1) s.size)) = er at *
  have hE' : (er != 0) = true := by simpa using hE
  clear hE h h2
  simp only [tv, none3] at *
  have BX0 := hid (box3_drew w (.string ⟨#[]⟩) (.string ⟨#[]⟩) (.string ⟨#[]⟩) (.string ((s.extract 0 i).extract 0 j)) (.string ((s.extract 0 i).extract (j + 1) i)) (.string (s.extract (i + 1) s.size)) 25 25)
  have HB0 := hid (show Below w.heap.size w ((w.alloc (.cells #[.string ⟨#[]⟩, .string ⟨#[]⟩, .string ⟨#[]⟩] 25)).alloc (.cells #[.string ((s.extract 0 i).extract 0 j), .string ((s.extract 0 i).extract (j + 1) i), .string (s.extract (i + 1) s.size)] 25)).drew from (below2 w _ _).drew)
  go_enter Tryz.func17, Tryz.ntmps17
  go_wp2_with fail
  refine (HL.out _).mono ?_
  rintro e w1 ⟨rfl, hww⟩; subst hww
  go_wp2_with fail
  go_region
  go_wp2_with fail
  refine (HI.out _).mono ?_
  rintro e w1 ⟨rfl, hww⟩; subst hww
  go_wp2_with fail
  refine (HT.out _).mono ?_
  rintro e w2 ⟨rfl, hb⟩
  have BX := BX0.out.low hb (by simp)
  have HB := hid (HB0.out.trans (hb.mono HB0.out.size))
  obtain ⟨c0, c1, c2, d0, d1, d2, f0, f1, f2⟩ := BX
  clear hb
  go_wp2_with fail
  (try simp only [Exit.inBlock, Exit.then])
  refine bodyPost_ret (v := .tuple #[.agg #[.string ByteArray.empty, .string ByteArray.empty, .string ByteArray.empty], .int .i64 er]) ?_ rfl ⟨rfl, below_set3 HB.out _ _ _ _ (Nat.le_refl _)⟩
  rw [results_cell_tmp rfl]
  go_simp
  try rfl
theorem qparse_any (s : ByteArray) (w : World) (hs : s.size ≤ maxLen) : Calls Tryz.prog 17 #[.string s] w fun e w' => e = .returned (.tuple #[tv (pT s).1, .int .i64 (pT s).2]) ∧ Below w.heap.size w w' := by
  unfold pT
  rcases lst_parts (s := s) (c := 58) with ⟨h, _⟩ | ⟨i, h, hi, _⟩
  · rw [if_pos (Or.inr h)]
    by_cases g : 256 < s.size
    · exact qparse_long s w hs g
    · exact qparse_none s w (by omega) h
  · by_cases g : 256 < s.size
    · rw [if_pos (Or.inl g)]
      exact qparse_long s w hs g
    · rw [if_neg (by rw [h]; omega), h]
      simp only [Int.toNat_natCast]
      rcases idx_cases (s.extract 0 i) 61 with h2 | ⟨j, h2, hj⟩
      · rw [if_neg (by unfold pBad; rw [h2]; simp)]
        have e : pRest (s.extract 0 i) (s.extract (i + 1) s.size) = (s.extract 0 i, ByteArray.empty, s.extract (i + 1) s.size) := by unfold pRest; rw [if_pos h2]
        rw [e]
        by_cases hE : tE (s.extract 0 i, ByteArray.empty, s.extract (i + 1) s.size) = 0
        · rw [if_pos hE]
          exact qparse_plain_ok s w i (by omega) h hi h2 hE
        · rw [if_neg hE]
          exact qparse_plain_bad s w i (by omega) h hi h2 hE
      · have e : pRest (s.extract 0 i) (s.extract (i + 1) s.size) = ((s.extract 0 i).extract 0 j, (s.extract 0 i).extract (j + 1) (s.extract 0 i).size, s.extract (i + 1) s.size) := by unfold pRest; rw [h2, if_neg (by omega)]; rfl
        have e' : pBad (s.extract 0 i) = emB ((s.extract 0 i).extract (j + 1) (s.extract 0 i).size) := by unfold pBad; rw [h2]; simp
        rw [e, e']
        by_cases hv : emB ((s.extract 0 i).extract (j + 1) (s.extract 0 i).size) = true
        · rw [if_pos hv]
          exact qparse_hole s w i (by omega) h hi j h2 hj hv
        · rw [if_neg hv]
          have hv' := Bool.eq_false_iff.2 hv
          by_cases hE : tE ((s.extract 0 i).extract 0 j, (s.extract 0 i).extract (j + 1) (s.extract 0 i).size, s.extract (i + 1) s.size) = 0
          · rw [if_pos hE]
            exact qparse_sign_ok s w i (by omega) h hi j h2 hj hv' hE
          · rw [if_neg hE]
            exact qparse_sign_bad s w i (by omega) h hi j h2 hj hv' hE
end Go.Proofs.YtppblibcbjpfnaaGreatDoor.L
