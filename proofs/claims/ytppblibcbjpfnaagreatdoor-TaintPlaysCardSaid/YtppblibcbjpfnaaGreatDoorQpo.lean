import Derived.Test.YtppblibcbjpfnaaGreatDoorQot
namespace Go.Proofs.YtppblibcbjpfnaaGreatDoor.L
open Go.RowKit
set_option linter.unusedVariables false
/-- An answer of four empty texts, and a toleration behind it. -/
structure Box4 (W : World) (b : Nat) (k p v f : Value) : Prop where
  c0 : W.cell? ⟨b, 0, none⟩ = some (.string ⟨#[]⟩)
  c1 : W.cell? ⟨b, 1, none⟩ = some (.string ⟨#[]⟩)
  c2 : W.cell? ⟨b, 2, none⟩ = some (.string ⟨#[]⟩)
  c3 : W.cell? ⟨b, 3, none⟩ = some (.string ⟨#[]⟩)
  d0 : W.cell? ⟨b + 1, 0, none⟩ = some k
  d1 : W.cell? ⟨b + 1, 1, none⟩ = some p
  d2 : W.cell? ⟨b + 1, 2, none⟩ = some v
  d3 : W.cell? ⟨b + 1, 3, none⟩ = some f
  f0 : W.frozen? ⟨b, 0, none⟩ = false
  f1 : W.frozen? ⟨b, 1, none⟩ = false
  f2 : W.frozen? ⟨b, 2, none⟩ = false
  f3 : W.frozen? ⟨b, 3, none⟩ = false
theorem box4_new (w : World) (k p v f : Value) (t t' : TypeId) : Box4 ((w.alloc (.cells #[.string ⟨#[]⟩, .string ⟨#[]⟩, .string ⟨#[]⟩, .string ⟨#[]⟩] t)).alloc (.cells #[k, p, v, f] t')) w.heap.size k p v f := by
  have h1 : ((w.alloc (.cells #[.string ⟨#[]⟩, .string ⟨#[]⟩, .string ⟨#[]⟩, .string ⟨#[]⟩] t)).alloc (.cells #[k, p, v, f] t')).heap[w.heap.size + 1]? = some (.cells #[k, p, v, f] t') := by
    show ((w.heap.push _).push _)[w.heap.size + 1]? = _
    rw [Array.getElem?_push, if_pos (by simp)]
  have h2 : ((w.alloc (.cells #[.string ⟨#[]⟩, .string ⟨#[]⟩, .string ⟨#[]⟩, .string ⟨#[]⟩] t)).alloc (.cells #[k, p, v, f] t')).heap[w.heap.size]? = some (.cells #[.string ⟨#[]⟩, .string ⟨#[]⟩, .string ⟨#[]⟩, .string ⟨#[]⟩] t) := by
    show ((w.heap.push _).push _)[w.heap.size]? = _
    rw [Array.getElem?_push, if_neg (by simp)]
    simp
  refine ⟨?_, ?_, ?_, ?_, ?_, ?_, ?_, ?_, ?_, ?_, ?_, ?_⟩
  · unfold World.cell?; rw [h2]; rfl
  · unfold World.cell?; rw [h2]; rfl
  · unfold World.cell?; rw [h2]; rfl
  · unfold World.cell?; rw [h2]; rfl
  · unfold World.cell?; rw [h1]; rfl
  · unfold World.cell?; rw [h1]; rfl
  · unfold World.cell?; rw [h1]; rfl
  · unfold World.cell?; rw [h1]; rfl
  · unfold World.frozen?; rw [h2]; rfl
  · unfold World.frozen?; rw [h2]; rfl
  · unfold World.frozen?; rw [h2]; rfl
  · unfold World.frozen?; rw [h2]; rfl
theorem box4_drew (w : World) (k p v f : Value) (t t' : TypeId) : Box4 ((w.alloc (.cells #[.string ⟨#[]⟩, .string ⟨#[]⟩, .string ⟨#[]⟩, .string ⟨#[]⟩] t)).alloc (.cells #[k, p, v, f] t')).drew w.heap.size k p v f := by
  have h := box4_new w k p v f t t'
  exact ⟨h.c0, h.c1, h.c2, h.c3, h.d0, h.d1, h.d2, h.d3, h.f0, h.f1, h.f2, h.f3⟩
theorem Box4.low {W W' : World} {b : Nat} {k p v f : Value} (h : Box4 W b k p v f) (hb : Below W.heap.size W W') (hz : b + 1 < W.heap.size) : Box4 W' b k p v f := by
  have hz' : b < W.heap.size := Nat.lt_of_succ_lt hz
  have fr : ∀ i, W'.frozen? ⟨b, i, none⟩ = W.frozen? ⟨b, i, none⟩ := fun i => by unfold World.frozen?; rw [hb.block b hz']
  exact ⟨(hb.cell (p := ⟨b, 0, none⟩) hz').trans h.c0, (hb.cell (p := ⟨b, 1, none⟩) hz').trans h.c1, (hb.cell (p := ⟨b, 2, none⟩) hz').trans h.c2, (hb.cell (p := ⟨b, 3, none⟩) hz').trans h.c3, (hb.cell (p := ⟨b + 1, 0, none⟩) hz).trans h.d0, (hb.cell (p := ⟨b + 1, 1, none⟩) hz).trans h.d1, (hb.cell (p := ⟨b + 1, 2, none⟩) hz).trans h.d2, (hb.cell (p := ⟨b + 1, 3, none⟩) hz).trans h.d3, (fr 0).trans h.f0, (fr 1).trans h.f1, (fr 2).trans h.f2, (fr 3).trans h.f3⟩
set_option maxHeartbeats 4000000 in
set_option maxRecDepth 100000 in
theorem qpo_long (s : ByteArray) (w : World) (hs : s.size ≤ maxLen) (g : 256 < s.size) : Calls Tryz.prog 21 #[.string s] w fun e w' => e = .returned (.tuple #[ov none4, .int .i64 43]) ∧ Below w.heap.size w w' := by
  have g' : (256 : Int) < (s.size : Int) := by omega
  unfold maxLen at hs
  simp only [ov, none4]
  go_enter Tryz.func21, Tryz.ntmps21
  go_wp2_with fail
  (try simp only [Exit.inBlock, Exit.then])
  refine bodyPost_ret (v := .tuple #[.agg #[.string ByteArray.empty, .string ByteArray.empty, .string ByteArray.empty, .string ByteArray.empty], .int .i64 43]) ?_ rfl ⟨rfl, belowA _ _⟩
  rw [results_cell_tmp rfl]
  go_simp
  try rfl
set_option maxHeartbeats 4000000 in
set_option maxRecDepth 100000 in
theorem qpo_n_rest (s : ByteArray) (w : World) (g : s.size ≤ 256) (h : lst s 58 = -1) (hr : emB s = true) : Calls Tryz.prog 21 #[.string s] w fun e w' => e = .returned (.tuple #[ov none4, .int .i64 43]) ∧ Below w.heap.size w w' := by
  have HL := hid (fun W => qlast_any s W (by unfold maxLen; omega))
  have g' : ¬ (256 : Int) < (s.size : Int) := by omega
  rw [h] at HL
  have hr' : s.toList.isEmpty = true := hr
  clear hr h
  simp only [ov, none4] at *
  go_enter Tryz.func21, Tryz.ntmps21
  go_wp2_with fail
  refine (HL.out _).mono ?_
  rintro e w1 ⟨rfl, hww⟩; subst hww
  go_wp2_with fail
  (try simp only [Exit.inBlock, Exit.then])
  refine bodyPost_ret (v := .tuple #[.agg #[.string ByteArray.empty, .string ByteArray.empty, .string ByteArray.empty, .string ByteArray.empty], .int .i64 43]) ?_ rfl ⟨rfl, (below2 w _ _)⟩
  rw [results_cell_tmp rfl]
  go_simp
  try rfl
set_option maxHeartbeats 4000000 in
set_option maxRecDepth 100000 in
theorem qpo_n_star_ok (s : ByteArray) (w : World) (g : s.size ≤ 256) (h : lst s 58 = -1) (hr : emB s = false) (h2 : idx s 61 = -1) (hx : eqS s ⟨#[42]⟩ = true) (hE : oE (⟨#[]⟩, ⟨#[69, 120, 105, 115, 116, 115]⟩, ⟨#[]⟩, ⟨#[]⟩) = 0) : Calls Tryz.prog 21 #[.string s] w fun e w' => e = .returned (.tuple #[ov (⟨#[]⟩, ⟨#[69, 120, 105, 115, 116, 115]⟩, ⟨#[]⟩, ⟨#[]⟩), .int .i64 0]) ∧ Below w.heap.size w w' := by
  have HL := hid (fun W => qlast_any s W (by unfold maxLen; omega))
  have g' : ¬ (256 : Int) < (s.size : Int) := by omega
  rw [h] at HL
  have hr' : s.toList.isEmpty = false := hr
  have HI := hid (fun W => qfirst_any s W (by unfold maxLen; omega))
  rw [h2] at HI
  have hx' : (s.toList == [42]) = true := by have h := hx; unfold eqS at h; rw [l42] at h; exact h
  clear hx
  have HT := hid (fun W => qctol_any (⟨#[]⟩, ⟨#[69, 120, 105, 115, 116, 115]⟩, ⟨#[]⟩, ⟨#[]⟩) W (show (⟨#[]⟩ : ByteArray).size ≤ maxLen by unfold maxLen; decide) (show (⟨#[]⟩ : ByteArray).size ≤ maxLen by unfold maxLen; decide))
  rw [hE] at HT
  clear hE hr h2 h
  simp only [ov] at *
  have BX0 := hid (box4_new w (.string ⟨#[]⟩) (.string ⟨#[69, 120, 105, 115, 116, 115]⟩) (.string ⟨#[]⟩) (.string ⟨#[]⟩) 27 27)
  have HB0 := hid (show Below w.heap.size w ((w.alloc (.cells #[.string ⟨#[]⟩, .string ⟨#[]⟩, .string ⟨#[]⟩, .string ⟨#[]⟩] 27)).alloc (.cells #[.string ⟨#[]⟩, .string ⟨#[69, 120, 105, 115, 116, 115]⟩, .string ⟨#[]⟩, .string ⟨#[]⟩] 27)) from (below2 w _ _))
  go_enter Tryz.func21, Tryz.ntmps21
  go_wp2_with fail
  refine (HL.out _).mono ?_
  rintro e w1 ⟨rfl, hww⟩; subst hww
  go_wp2_with fail
  refine (HI.out _).mono ?_
  rintro e w1 ⟨rfl, hww⟩; subst hww
  go_wp2_with fail
  refine (HT.out _).mono ?_
  rintro e w2 ⟨rfl, hb⟩
  have BX := BX0.out.low hb (by simp)
  have HB := hid (HB0.out.trans (hb.mono HB0.out.size))
  obtain ⟨c0, c1, c2, c3, d0, d1, d2, d3, f0, f1, f2, f3⟩ := BX
  clear hb
  go_wp2_with fail
  (try simp only [Exit.inBlock, Exit.then])
  refine bodyPost_ret (v := .tuple #[.agg #[.string ⟨#[]⟩, .string ⟨#[69, 120, 105, 115, 116, 115]⟩, .string ⟨#[]⟩, .string ⟨#[]⟩], .int .i64 0]) ?_ rfl ⟨rfl, below_set4 HB.out _ _ _ _ _ (Nat.le_refl _)⟩
  rw [results_cell_tmp rfl]
  go_simp
  try rfl
set_option maxHeartbeats 4000000 in
set_option maxRecDepth 100000 in
theorem qpo_n_star_bad (s : ByteArray) (w : World) (g : s.size ≤ 256) (h : lst s 58 = -1) (hr : emB s = false) (h2 : idx s 61 = -1) (hx : eqS s ⟨#[42]⟩ = true) (hE : oE (⟨#[]⟩, ⟨#[69, 120, 105, 115, 116, 115]⟩, ⟨#[]⟩, ⟨#[]⟩) ≠ 0) : Calls Tryz.prog 21 #[.string s] w fun e w' => e = .returned (.tuple #[ov none4, .int .i64 (oE (⟨#[]⟩, ⟨#[69, 120, 105, 115, 116, 115]⟩, ⟨#[]⟩, ⟨#[]⟩))]) ∧ Below w.heap.size w w' := by
  have HL := hid (fun W => qlast_any s W (by unfold maxLen; omega))
  have g' : ¬ (256 : Int) < (s.size : Int) := by omega
  rw [h] at HL
  have hr' : s.toList.isEmpty = false := hr
  have HI := hid (fun W => qfirst_any s W (by unfold maxLen; omega))
  rw [h2] at HI
  have hx' : (s.toList == [42]) = true := by have h := hx; unfold eqS at h; rw [l42] at h; exact h
  clear hx
  have HT := hid (fun W => qctol_any (⟨#[]⟩, ⟨#[69, 120, 105, 115, 116, 115]⟩, ⟨#[]⟩, ⟨#[]⟩) W (show (⟨#[]⟩ : ByteArray).size ≤ maxLen by unfold maxLen; decide) (show (⟨#[]⟩ : ByteArray).size ≤ maxLen by unfold maxLen; decide))
  generalize oE (⟨#[]⟩, ⟨#[69, 120, 105, 115, 116, 115]⟩, ⟨#[]⟩, ⟨#[]⟩) = er at *
  have hE' : (er != 0) = true := by simpa using hE
  clear hE hr h2 h
  simp only [ov, none4] at *
  have BX0 := hid (box4_new w (.string ⟨#[]⟩) (.string ⟨#[69, 120, 105, 115, 116, 115]⟩) (.string ⟨#[]⟩) (.string ⟨#[]⟩) 27 27)
  have HB0 := hid (show Below w.heap.size w ((w.alloc (.cells #[.string ⟨#[]⟩, .string ⟨#[]⟩, .string ⟨#[]⟩, .string ⟨#[]⟩] 27)).alloc (.cells #[.string ⟨#[]⟩, .string ⟨#[69, 120, 105, 115, 116, 115]⟩, .string ⟨#[]⟩, .string ⟨#[]⟩] 27)) from (below2 w _ _))
  go_enter Tryz.func21, Tryz.ntmps21
  go_wp2_with fail
  refine (HL.out _).mono ?_
  rintro e w1 ⟨rfl, hww⟩; subst hww
  go_wp2_with fail
  refine (HI.out _).mono ?_
  rintro e w1 ⟨rfl, hww⟩; subst hww
  go_wp2_with fail
  refine (HT.out _).mono ?_
  rintro e w2 ⟨rfl, hb⟩
  have BX := BX0.out.low hb (by simp)
  have HB := hid (HB0.out.trans (hb.mono HB0.out.size))
  obtain ⟨c0, c1, c2, c3, d0, d1, d2, d3, f0, f1, f2, f3⟩ := BX
  clear hb
  go_wp2_with fail
  (try simp only [Exit.inBlock, Exit.then])
  refine bodyPost_ret (v := .tuple #[.agg #[.string ByteArray.empty, .string ByteArray.empty, .string ByteArray.empty, .string ByteArray.empty], .int .i64 er]) ?_ rfl ⟨rfl, below_set4 HB.out _ _ _ _ _ (Nat.le_refl _)⟩
  rw [results_cell_tmp rfl]
  go_simp
  try rfl
set_option maxHeartbeats 4000000 in
set_option maxRecDepth 100000 in
theorem qpo_n_key_ok (s : ByteArray) (w : World) (g : s.size ≤ 256) (h : lst s 58 = -1) (hr : emB s = false) (h2 : idx s 61 = -1) (hx : eqS s ⟨#[42]⟩ = false) (hE : oE (s, ⟨#[69, 120, 105, 115, 116, 115]⟩, ⟨#[]⟩, ⟨#[]⟩) = 0) : Calls Tryz.prog 21 #[.string s] w fun e w' => e = .returned (.tuple #[ov (s, ⟨#[69, 120, 105, 115, 116, 115]⟩, ⟨#[]⟩, ⟨#[]⟩), .int .i64 0]) ∧ Below w.heap.size w w' := by
  have HL := hid (fun W => qlast_any s W (by unfold maxLen; omega))
  have g' : ¬ (256 : Int) < (s.size : Int) := by omega
  rw [h] at HL
  have hr' : s.toList.isEmpty = false := hr
  have HI := hid (fun W => qfirst_any s W (by unfold maxLen; omega))
  rw [h2] at HI
  have hx' : (s.toList == [42]) = false := by have h := hx; unfold eqS at h; rw [l42] at h; exact h
  clear hx
  have HT := hid (fun W => qctol_any (s, ⟨#[69, 120, 105, 115, 116, 115]⟩, ⟨#[]⟩, ⟨#[]⟩) W (show s.size ≤ maxLen by unfold maxLen; omega) (show (⟨#[]⟩ : ByteArray).size ≤ maxLen by unfold maxLen; decide))
  rw [hE] at HT
  clear hE hr h2 h
  simp only [ov] at *
  have BX0 := hid (box4_new w (.string s) (.string ⟨#[69, 120, 105, 115, 116, 115]⟩) (.string ⟨#[]⟩) (.string ⟨#[]⟩) 27 27)
  have HB0 := hid (show Below w.heap.size w ((w.alloc (.cells #[.string ⟨#[]⟩, .string ⟨#[]⟩, .string ⟨#[]⟩, .string ⟨#[]⟩] 27)).alloc (.cells #[.string s, .string ⟨#[69, 120, 105, 115, 116, 115]⟩, .string ⟨#[]⟩, .string ⟨#[]⟩] 27)) from (below2 w _ _))
  go_enter Tryz.func21, Tryz.ntmps21
  go_wp2_with fail
  refine (HL.out _).mono ?_
  rintro e w1 ⟨rfl, hww⟩; subst hww
  go_wp2_with fail
  refine (HI.out _).mono ?_
  rintro e w1 ⟨rfl, hww⟩; subst hww
  go_wp2_with fail
  refine (HT.out _).mono ?_
  rintro e w2 ⟨rfl, hb⟩
  have BX := BX0.out.low hb (by simp)
  have HB := hid (HB0.out.trans (hb.mono HB0.out.size))
  obtain ⟨c0, c1, c2, c3, d0, d1, d2, d3, f0, f1, f2, f3⟩ := BX
  clear hb
  go_wp2_with fail
  (try simp only [Exit.inBlock, Exit.then])
  refine bodyPost_ret (v := .tuple #[.agg #[.string s, .string ⟨#[69, 120, 105, 115, 116, 115]⟩, .string ⟨#[]⟩, .string ⟨#[]⟩], .int .i64 0]) ?_ rfl ⟨rfl, below_set4 HB.out _ _ _ _ _ (Nat.le_refl _)⟩
  rw [results_cell_tmp rfl]
  go_simp
  try rfl
set_option maxHeartbeats 4000000 in
set_option maxRecDepth 100000 in
theorem qpo_n_key_bad (s : ByteArray) (w : World) (g : s.size ≤ 256) (h : lst s 58 = -1) (hr : emB s = false) (h2 : idx s 61 = -1) (hx : eqS s ⟨#[42]⟩ = false) (hE : oE (s, ⟨#[69, 120, 105, 115, 116, 115]⟩, ⟨#[]⟩, ⟨#[]⟩) ≠ 0) : Calls Tryz.prog 21 #[.string s] w fun e w' => e = .returned (.tuple #[ov none4, .int .i64 (oE (s, ⟨#[69, 120, 105, 115, 116, 115]⟩, ⟨#[]⟩, ⟨#[]⟩))]) ∧ Below w.heap.size w w' := by
  have HL := hid (fun W => qlast_any s W (by unfold maxLen; omega))
  have g' : ¬ (256 : Int) < (s.size : Int) := by omega
  rw [h] at HL
  have hr' : s.toList.isEmpty = false := hr
  have HI := hid (fun W => qfirst_any s W (by unfold maxLen; omega))
  rw [h2] at HI
  have hx' : (s.toList == [42]) = false := by have h := hx; unfold eqS at h; rw [l42] at h; exact h
  clear hx
  have HT := hid (fun W => qctol_any (s, ⟨#[69, 120, 105, 115, 116, 115]⟩, ⟨#[]⟩, ⟨#[]⟩) W (show s.size ≤ maxLen by unfold maxLen; omega) (show (⟨#[]⟩ : ByteArray).size ≤ maxLen by unfold maxLen; decide))
  generalize oE (s, ⟨#[69, 120, 105, 115, 116, 115]⟩, ⟨#[]⟩, ⟨#[]⟩) = er at *
  have hE' : (er != 0) = true := by simpa using hE
  clear hE hr h2 h
  simp only [ov, none4] at *
  have BX0 := hid (box4_new w (.string s) (.string ⟨#[69, 120, 105, 115, 116, 115]⟩) (.string ⟨#[]⟩) (.string ⟨#[]⟩) 27 27)
  have HB0 := hid (show Below w.heap.size w ((w.alloc (.cells #[.string ⟨#[]⟩, .string ⟨#[]⟩, .string ⟨#[]⟩, .string ⟨#[]⟩] 27)).alloc (.cells #[.string s, .string ⟨#[69, 120, 105, 115, 116, 115]⟩, .string ⟨#[]⟩, .string ⟨#[]⟩] 27)) from (below2 w _ _))
  go_enter Tryz.func21, Tryz.ntmps21
  go_wp2_with fail
  refine (HL.out _).mono ?_
  rintro e w1 ⟨rfl, hww⟩; subst hww
  go_wp2_with fail
  refine (HI.out _).mono ?_
  rintro e w1 ⟨rfl, hww⟩; subst hww
  go_wp2_with fail
  refine (HT.out _).mono ?_
  rintro e w2 ⟨rfl, hb⟩
  have BX := BX0.out.low hb (by simp)
  have HB := hid (HB0.out.trans (hb.mono HB0.out.size))
  obtain ⟨c0, c1, c2, c3, d0, d1, d2, d3, f0, f1, f2, f3⟩ := BX
  clear hb
  go_wp2_with fail
  (try simp only [Exit.inBlock, Exit.then])
  refine bodyPost_ret (v := .tuple #[.agg #[.string ByteArray.empty, .string ByteArray.empty, .string ByteArray.empty, .string ByteArray.empty], .int .i64 er]) ?_ rfl ⟨rfl, below_set4 HB.out _ _ _ _ _ (Nat.le_refl _)⟩
  rw [results_cell_tmp rfl]
  go_simp
  try rfl
set_option maxHeartbeats 4000000 in
set_option maxRecDepth 100000 in
theorem qpo_n_sign_ok (s : ByteArray) (w : World) (g : s.size ≤ 256) (h : lst s 58 = -1) (hr : emB s = false) (j : Nat) (h2 : idx s 61 = j) (hj : j < s.size) (hE : oE ((s.extract 0 j), ⟨#[69, 113, 117, 97, 108]⟩, (s.extract (j + 1) s.size), ⟨#[]⟩) = 0) : Calls Tryz.prog 21 #[.string s] w fun e w' => e = .returned (.tuple #[ov ((s.extract 0 j), ⟨#[69, 113, 117, 97, 108]⟩, (s.extract (j + 1) s.size), ⟨#[]⟩), .int .i64 0]) ∧ Below w.heap.size w w' := by
  have HL := hid (fun W => qlast_any s W (by unfold maxLen; omega))
  have g' : ¬ (256 : Int) < (s.size : Int) := by omega
  rw [h] at HL
  have hr' : s.toList.isEmpty = false := hr
  have HI := hid (fun W => qfirst_any s W (by unfold maxLen; omega))
  rw [h2] at HI
  have gj : (0 : Int) ≤ (j : Int) := by omega
  have gj2 : (j : Int) ≤ (s.size : Int) := by omega
  have gj3 : (j : Int) + 1 ≤ (s.size : Int) := by omega
  have HT := hid (fun W => qctol_any ((s.extract 0 j), ⟨#[69, 113, 117, 97, 108]⟩, (s.extract (j + 1) s.size), ⟨#[]⟩) W (show (s.extract 0 j).size ≤ maxLen by rw [ByteArray.size_extract]; unfold maxLen; omega) (show (s.extract (j + 1) s.size).size ≤ maxLen by rw [ByteArray.size_extract]; unfold maxLen; omega))
  rw [hE] at HT
  clear hE hr h2 h
  simp only [ov] at *
  have BX0 := hid (box4_new w (.string (s.extract 0 j)) (.string ⟨#[69, 113, 117, 97, 108]⟩) (.string (s.extract (j + 1) s.size)) (.string ⟨#[]⟩) 27 27)
  have HB0 := hid (show Below w.heap.size w ((w.alloc (.cells #[.string ⟨#[]⟩, .string ⟨#[]⟩, .string ⟨#[]⟩, .string ⟨#[]⟩] 27)).alloc (.cells #[.string (s.extract 0 j), .string ⟨#[69, 113, 117, 97, 108]⟩, .string (s.extract (j + 1) s.size), .string ⟨#[]⟩] 27)) from (below2 w _ _))
  go_enter Tryz.func21, Tryz.ntmps21
  go_wp2_with fail
  refine (HL.out _).mono ?_
  rintro e w1 ⟨rfl, hww⟩; subst hww
  go_wp2_with fail
  refine (HI.out _).mono ?_
  rintro e w1 ⟨rfl, hww⟩; subst hww
  go_wp2_with fail
  refine (HT.out _).mono ?_
  rintro e w2 ⟨rfl, hb⟩
  have BX := BX0.out.low hb (by simp)
  have HB := hid (HB0.out.trans (hb.mono HB0.out.size))
  obtain ⟨c0, c1, c2, c3, d0, d1, d2, d3, f0, f1, f2, f3⟩ := BX
  clear hb
  go_wp2_with fail
  (try simp only [Exit.inBlock, Exit.then])
  refine bodyPost_ret (v := .tuple #[.agg #[.string (s.extract 0 j), .string ⟨#[69, 113, 117, 97, 108]⟩, .string (s.extract (j + 1) s.size), .string ⟨#[]⟩], .int .i64 0]) ?_ rfl ⟨rfl, below_set4 HB.out _ _ _ _ _ (Nat.le_refl _)⟩
  rw [results_cell_tmp rfl]
  go_simp
  try rfl
set_option maxHeartbeats 4000000 in
set_option maxRecDepth 100000 in
theorem qpo_n_sign_bad (s : ByteArray) (w : World) (g : s.size ≤ 256) (h : lst s 58 = -1) (hr : emB s = false) (j : Nat) (h2 : idx s 61 = j) (hj : j < s.size) (hE : oE ((s.extract 0 j), ⟨#[69, 113, 117, 97, 108]⟩, (s.extract (j + 1) s.size), ⟨#[]⟩) ≠ 0) : Calls Tryz.prog 21 #[.string s] w fun e w' => e = .returned (.tuple #[ov none4, .int .i64 (oE ((s.extract 0 j), ⟨#[69, 113, 117, 97, 108]⟩, (s.extract (j + 1) s.size), ⟨#[]⟩))]) ∧ Below w.heap.size w w' := by
  have HL := hid (fun W => qlast_any s W (by unfold maxLen; omega))
  have g' : ¬ (256 : Int) < (s.size : Int) := by omega
  rw [h] at HL
  have hr' : s.toList.isEmpty = false := hr
  have HI := hid (fun W => qfirst_any s W (by unfold maxLen; omega))
  rw [h2] at HI
  have gj : (0 : Int) ≤ (j : Int) := by omega
  have gj2 : (j : Int) ≤ (s.size : Int) := by omega
  have gj3 : (j : Int) + 1 ≤ (s.size : Int) := by omega
  have HT := hid (fun W => qctol_any ((s.extract 0 j), ⟨#[69, 113, 117, 97, 108]⟩, (s.extract (j + 1) s.size), ⟨#[]⟩) W (show (s.extract 0 j).size ≤ maxLen by rw [ByteArray.size_extract]; unfold maxLen; omega) (show (s.extract (j + 1) s.size).size ≤ maxLen by rw [ByteArray.size_extract]; unfold maxLen; omega))
  generalize oE ((s.extract 0 j), ⟨#[69, 113, 117, 97, 108]⟩, (s.extract (j + 1) s.size), ⟨#[]⟩) = er at *
  have hE' : (er != 0) = true := by simpa using hE
  clear hE hr h2 h
  simp only [ov, none4] at *
  have BX0 := hid (box4_new w (.string (s.extract 0 j)) (.string ⟨#[69, 113, 117, 97, 108]⟩) (.string (s.extract (j + 1) s.size)) (.string ⟨#[]⟩) 27 27)
  have HB0 := hid (show Below w.heap.size w ((w.alloc (.cells #[.string ⟨#[]⟩, .string ⟨#[]⟩, .string ⟨#[]⟩, .string ⟨#[]⟩] 27)).alloc (.cells #[.string (s.extract 0 j), .string ⟨#[69, 113, 117, 97, 108]⟩, .string (s.extract (j + 1) s.size), .string ⟨#[]⟩] 27)) from (below2 w _ _))
  go_enter Tryz.func21, Tryz.ntmps21
  go_wp2_with fail
  refine (HL.out _).mono ?_
  rintro e w1 ⟨rfl, hww⟩; subst hww
  go_wp2_with fail
  refine (HI.out _).mono ?_
  rintro e w1 ⟨rfl, hww⟩; subst hww
  go_wp2_with fail
  refine (HT.out _).mono ?_
  rintro e w2 ⟨rfl, hb⟩
  have BX := BX0.out.low hb (by simp)
  have HB := hid (HB0.out.trans (hb.mono HB0.out.size))
  obtain ⟨c0, c1, c2, c3, d0, d1, d2, d3, f0, f1, f2, f3⟩ := BX
  clear hb
  go_wp2_with fail
  (try simp only [Exit.inBlock, Exit.then])
  refine bodyPost_ret (v := .tuple #[.agg #[.string ByteArray.empty, .string ByteArray.empty, .string ByteArray.empty, .string ByteArray.empty], .int .i64 er]) ?_ rfl ⟨rfl, below_set4 HB.out _ _ _ _ _ (Nat.le_refl _)⟩
  rw [results_cell_tmp rfl]
  go_simp
  try rfl
set_option maxHeartbeats 4000000 in
set_option maxRecDepth 100000 in
theorem qpo_c_eff (s : ByteArray) (w : World) (i : Nat) (g : s.size ≤ 256) (h : lst s 58 = i) (hi : i < s.size) (hf : emB (s.extract (i + 1) s.size) = true) : Calls Tryz.prog 21 #[.string s] w fun e w' => e = .returned (.tuple #[ov none4, .int .i64 43]) ∧ Below w.heap.size w w' := by
  have HL := hid (fun W => qlast_any s W (by unfold maxLen; omega))
  have g' : ¬ (256 : Int) < (s.size : Int) := by omega
  rw [h] at HL
  have hz : (s.extract 0 i).size = i := by rw [ByteArray.size_extract]; omega
  have g0 : (0 : Int) ≤ (i : Int) := by omega
  have gi2 : (i : Int) ≤ (s.size : Int) := by omega
  have gi3 : (i : Int) + 1 ≤ (s.size : Int) := by omega
  have hf' : (s.extract (i + 1) s.size).toList.isEmpty = true := hf
  clear hf h
  simp only [ov, none4] at *
  go_enter Tryz.func21, Tryz.ntmps21
  go_wp2_with fail
  refine (HL.out _).mono ?_
  rintro e w1 ⟨rfl, hww⟩; subst hww
  go_wp2_with fail
  go_region
  go_wp2_with fail
  (try simp only [Exit.inBlock, Exit.then])
  refine bodyPost_ret (v := .tuple #[.agg #[.string ByteArray.empty, .string ByteArray.empty, .string ByteArray.empty, .string ByteArray.empty], .int .i64 43]) ?_ rfl ⟨rfl, (below2 w _ _).drew⟩
  rw [results_cell_tmp rfl]
  go_simp
  try rfl
set_option maxHeartbeats 4000000 in
set_option maxRecDepth 100000 in
theorem qpo_c_rest (s : ByteArray) (w : World) (i : Nat) (g : s.size ≤ 256) (h : lst s 58 = i) (hi : i < s.size) (hf : emB (s.extract (i + 1) s.size) = false) (hr : emB (s.extract 0 i) = true) : Calls Tryz.prog 21 #[.string s] w fun e w' => e = .returned (.tuple #[ov none4, .int .i64 43]) ∧ Below w.heap.size w w' := by
  have HL := hid (fun W => qlast_any s W (by unfold maxLen; omega))
  have g' : ¬ (256 : Int) < (s.size : Int) := by omega
  rw [h] at HL
  have hz : (s.extract 0 i).size = i := by rw [ByteArray.size_extract]; omega
  have g0 : (0 : Int) ≤ (i : Int) := by omega
  have gi2 : (i : Int) ≤ (s.size : Int) := by omega
  have gi3 : (i : Int) + 1 ≤ (s.size : Int) := by omega
  have hf' : (s.extract (i + 1) s.size).toList.isEmpty = false := hf
  have hr' : (s.extract 0 i).toList.isEmpty = true := hr
  clear hr hf h
  simp only [ov, none4] at *
  go_enter Tryz.func21, Tryz.ntmps21
  go_wp2_with fail
  refine (HL.out _).mono ?_
  rintro e w1 ⟨rfl, hww⟩; subst hww
  go_wp2_with fail
  go_region
  go_wp2_with fail
  (try simp only [Exit.inBlock, Exit.then])
  refine bodyPost_ret (v := .tuple #[.agg #[.string ByteArray.empty, .string ByteArray.empty, .string ByteArray.empty, .string ByteArray.empty], .int .i64 43]) ?_ rfl ⟨rfl, (below2 w _ _).drew⟩
  rw [results_cell_tmp rfl]
  go_simp
  try rfl
set_option maxHeartbeats 4000000 in
set_option maxRecDepth 100000 in
theorem qpo_c_star_ok (s : ByteArray) (w : World) (i : Nat) (g : s.size ≤ 256) (h : lst s 58 = i) (hi : i < s.size) (hf : emB (s.extract (i + 1) s.size) = false) (hr : emB (s.extract 0 i) = false) (h2 : idx (s.extract 0 i) 61 = -1) (hx : eqS (s.extract 0 i) ⟨#[42]⟩ = true) (hE : oE (⟨#[]⟩, ⟨#[69, 120, 105, 115, 116, 115]⟩, ⟨#[]⟩, (s.extract (i + 1) s.size)) = 0) : Calls Tryz.prog 21 #[.string s] w fun e w' => e = .returned (.tuple #[ov (⟨#[]⟩, ⟨#[69, 120, 105, 115, 116, 115]⟩, ⟨#[]⟩, (s.extract (i + 1) s.size)), .int .i64 0]) ∧ Below w.heap.size w w' := by
  have HL := hid (fun W => qlast_any s W (by unfold maxLen; omega))
  have g' : ¬ (256 : Int) < (s.size : Int) := by omega
  rw [h] at HL
  have hz : (s.extract 0 i).size = i := by rw [ByteArray.size_extract]; omega
  have g0 : (0 : Int) ≤ (i : Int) := by omega
  have gi2 : (i : Int) ≤ (s.size : Int) := by omega
  have gi3 : (i : Int) + 1 ≤ (s.size : Int) := by omega
  have hf' : (s.extract (i + 1) s.size).toList.isEmpty = false := hf
  have hr' : (s.extract 0 i).toList.isEmpty = false := hr
  have HI := hid (fun W => qfirst_any (s.extract 0 i) W (by unfold maxLen; omega))
  rw [h2] at HI
  have hx' : ((s.extract 0 i).toList == [42]) = true := by have h := hx; unfold eqS at h; rw [l42] at h; exact h
  clear hx
  have HT := hid (fun W => qctol_any (⟨#[]⟩, ⟨#[69, 120, 105, 115, 116, 115]⟩, ⟨#[]⟩, (s.extract (i + 1) s.size)) W (show (⟨#[]⟩ : ByteArray).size ≤ maxLen by unfold maxLen; decide) (show (⟨#[]⟩ : ByteArray).size ≤ maxLen by unfold maxLen; decide))
  rw [hE] at HT
  clear hE hr h2 hf h
  simp only [ov] at *
  have BX0 := hid (box4_drew w (.string ⟨#[]⟩) (.string ⟨#[69, 120, 105, 115, 116, 115]⟩) (.string ⟨#[]⟩) (.string (s.extract (i + 1) s.size)) 27 27)
  have HB0 := hid (show Below w.heap.size w ((w.alloc (.cells #[.string ⟨#[]⟩, .string ⟨#[]⟩, .string ⟨#[]⟩, .string ⟨#[]⟩] 27)).alloc (.cells #[.string ⟨#[]⟩, .string ⟨#[69, 120, 105, 115, 116, 115]⟩, .string ⟨#[]⟩, .string (s.extract (i + 1) s.size)] 27)).drew from (below2 w _ _).drew)
  go_enter Tryz.func21, Tryz.ntmps21
  go_wp2_with fail
  refine (HL.out _).mono ?_
  rintro e w1 ⟨rfl, hww⟩; subst hww
  go_wp2_with fail
  go_region
  go_wp2_with fail
  refine (HI.out _).mono ?_
  rintro e w1 ⟨rfl, hww⟩; subst hww
  go_wp2_with fail
  refine (HT.out _).mono ?_
  rintro e w2 ⟨rfl, hb⟩
  have BX := BX0.out.low hb (by simp)
  have HB := hid (HB0.out.trans (hb.mono HB0.out.size))
  obtain ⟨c0, c1, c2, c3, d0, d1, d2, d3, f0, f1, f2, f3⟩ := BX
  clear hb
  go_wp2_with fail
  (try simp only [Exit.inBlock, Exit.then])
  refine bodyPost_ret (v := .tuple #[.agg #[.string ⟨#[]⟩, .string ⟨#[69, 120, 105, 115, 116, 115]⟩, .string ⟨#[]⟩, .string (s.extract (i + 1) s.size)], .int .i64 0]) ?_ rfl ⟨rfl, below_set4 HB.out _ _ _ _ _ (Nat.le_refl _)⟩
  rw [results_cell_tmp rfl]
  go_simp
  try rfl
set_option maxHeartbeats 4000000 in
set_option maxRecDepth 100000 in
theorem qpo_c_star_bad (s : ByteArray) (w : World) (i : Nat) (g : s.size ≤ 256) (h : lst s 58 = i) (hi : i < s.size) (hf : emB (s.extract (i + 1) s.size) = false) (hr : emB (s.extract 0 i) = false) (h2 : idx (s.extract 0 i) 61 = -1) (hx : eqS (s.extract 0 i) ⟨#[42]⟩ = true) (hE : oE (⟨#[]⟩, ⟨#[69, 120, 105, 115, 116, 115]⟩, ⟨#[]⟩, (s.extract (i + 1) s.size)) ≠ 0) : Calls Tryz.prog 21 #[.string s] w fun e w' => e = .returned (.tuple #[ov none4, .int .i64 (oE (⟨#[]⟩, ⟨#[69, 120, 105, 115, 116, 115]⟩, ⟨#[]⟩, (s.extract (i + 1) s.size)))]) ∧ Below w.heap.size w w' := by
  have HL := hid (fun W => qlast_any s W (by unfold maxLen; omega))
  have g' : ¬ (256 : Int) < (s.size : Int) := by omega
  rw [h] at HL
  have hz : (s.extract 0 i).size = i := by rw [ByteArray.size_extract]; omega
  have g0 : (0 : Int) ≤ (i : Int) := by omega
  have gi2 : (i : Int) ≤ (s.size : Int) := by omega
  have gi3 : (i : Int) + 1 ≤ (s.size : Int) := by omega
  have hf' : (s.extract (i + 1) s.size).toList.isEmpty = false := hf
  have hr' : (s.extract 0 i).toList.isEmpty = false := hr
  have HI := hid (fun W => qfirst_any (s.extract 0 i) W (by unfold maxLen; omega))
  rw [h2] at HI
  have hx' : ((s.extract 0 i).toList == [42]) = true := by have h := hx; unfold eqS at h; rw [l42] at h; exact h
  clear hx
  have HT := hid (fun W => qctol_any (⟨#[]⟩, ⟨#[69, 120, 105, 115, 116, 115]⟩, ⟨#[]⟩, (s.extract (i + 1) s.size)) W (show (⟨#[]⟩ : ByteArray).size ≤ maxLen by unfold maxLen; decide) (show (⟨#[]⟩ : ByteArray).size ≤ maxLen by unfold maxLen; decide))
  generalize oE (⟨#[]⟩, ⟨#[69, 120, 105, 115, 116, 115]⟩, ⟨#[]⟩, (s.extract (i + 1) s.size)) = er at *
  have hE' : (er != 0) = true := by simpa using hE
  clear hE hr h2 hf h
  simp only [ov, none4] at *
  have BX0 := hid (box4_drew w (.string ⟨#[]⟩) (.string ⟨#[69, 120, 105, 115, 116, 115]⟩) (.string ⟨#[]⟩) (.string (s.extract (i + 1) s.size)) 27 27)
  have HB0 := hid (show Below w.heap.size w ((w.alloc (.cells #[.string ⟨#[]⟩, .string ⟨#[]⟩, .string ⟨#[]⟩, .string ⟨#[]⟩] 27)).alloc (.cells #[.string ⟨#[]⟩, .string ⟨#[69, 120, 105, 115, 116, 115]⟩, .string ⟨#[]⟩, .string (s.extract (i + 1) s.size)] 27)).drew from (below2 w _ _).drew)
  go_enter Tryz.func21, Tryz.ntmps21
  go_wp2_with fail
  refine (HL.out _).mono ?_
  rintro e w1 ⟨rfl, hww⟩; subst hww
  go_wp2_with fail
  go_region
  go_wp2_with fail
  refine (HI.out _).mono ?_
  rintro e w1 ⟨rfl, hww⟩; subst hww
  go_wp2_with fail
  refine (HT.out _).mono ?_
  rintro e w2 ⟨rfl, hb⟩
  have BX := BX0.out.low hb (by simp)
  have HB := hid (HB0.out.trans (hb.mono HB0.out.size))
  obtain ⟨c0, c1, c2, c3, d0, d1, d2, d3, f0, f1, f2, f3⟩ := BX
  clear hb
  go_wp2_with fail
  (try simp only [Exit.inBlock, Exit.then])
  refine bodyPost_ret (v := .tuple #[.agg #[.string ByteArray.empty, .string ByteArray.empty, .string ByteArray.empty, .string ByteArray.empty], .int .i64 er]) ?_ rfl ⟨rfl, below_set4 HB.out _ _ _ _ _ (Nat.le_refl _)⟩
  rw [results_cell_tmp rfl]
  go_simp
  try rfl
set_option maxHeartbeats 4000000 in
set_option maxRecDepth 100000 in
theorem qpo_c_key_ok (s : ByteArray) (w : World) (i : Nat) (g : s.size ≤ 256) (h : lst s 58 = i) (hi : i < s.size) (hf : emB (s.extract (i + 1) s.size) = false) (hr : emB (s.extract 0 i) = false) (h2 : idx (s.extract 0 i) 61 = -1) (hx : eqS (s.extract 0 i) ⟨#[42]⟩ = false) (hE : oE ((s.extract 0 i), ⟨#[69, 120, 105, 115, 116, 115]⟩, ⟨#[]⟩, (s.extract (i + 1) s.size)) = 0) : Calls Tryz.prog 21 #[.string s] w fun e w' => e = .returned (.tuple #[ov ((s.extract 0 i), ⟨#[69, 120, 105, 115, 116, 115]⟩, ⟨#[]⟩, (s.extract (i + 1) s.size)), .int .i64 0]) ∧ Below w.heap.size w w' := by
  have HL := hid (fun W => qlast_any s W (by unfold maxLen; omega))
  have g' : ¬ (256 : Int) < (s.size : Int) := by omega
  rw [h] at HL
  have hz : (s.extract 0 i).size = i := by rw [ByteArray.size_extract]; omega
  have g0 : (0 : Int) ≤ (i : Int) := by omega
  have gi2 : (i : Int) ≤ (s.size : Int) := by omega
  have gi3 : (i : Int) + 1 ≤ (s.size : Int) := by omega
  have hf' : (s.extract (i + 1) s.size).toList.isEmpty = false := hf
  have hr' : (s.extract 0 i).toList.isEmpty = false := hr
  have HI := hid (fun W => qfirst_any (s.extract 0 i) W (by unfold maxLen; omega))
  rw [h2] at HI
  have hx' : ((s.extract 0 i).toList == [42]) = false := by have h := hx; unfold eqS at h; rw [l42] at h; exact h
  clear hx
  have HT := hid (fun W => qctol_any ((s.extract 0 i), ⟨#[69, 120, 105, 115, 116, 115]⟩, ⟨#[]⟩, (s.extract (i + 1) s.size)) W (show (s.extract 0 i).size ≤ maxLen by unfold maxLen; omega) (show (⟨#[]⟩ : ByteArray).size ≤ maxLen by unfold maxLen; decide))
  rw [hE] at HT
  clear hE hr h2 hf h
  simp only [ov] at *
  have BX0 := hid (box4_drew w (.string (s.extract 0 i)) (.string ⟨#[69, 120, 105, 115, 116, 115]⟩) (.string ⟨#[]⟩) (.string (s.extract (i + 1) s.size)) 27 27)
  have HB0 := hid (show Below w.heap.size w ((w.alloc (.cells #[.string ⟨#[]⟩, .string ⟨#[]⟩, .string ⟨#[]⟩, .string ⟨#[]⟩] 27)).alloc (.cells #[.string (s.extract 0 i), .string ⟨#[69, 120, 105, 115, 116, 115]⟩, .string ⟨#[]⟩, .string (s.extract (i + 1) s.size)] 27)).drew from (below2 w _ _).drew)
  go_enter Tryz.func21, Tryz.ntmps21
  go_wp2_with fail
  refine (HL.out _).mono ?_
  rintro e w1 ⟨rfl, hww⟩; subst hww
  go_wp2_with fail
  go_region
  go_wp2_with fail
  refine (HI.out _).mono ?_
  rintro e w1 ⟨rfl, hww⟩; subst hww
  go_wp2_with fail
  refine (HT.out _).mono ?_
  rintro e w2 ⟨rfl, hb⟩
  have BX := BX0.out.low hb (by simp)
  have HB := hid (HB0.out.trans (hb.mono HB0.out.size))
  obtain ⟨c0, c1, c2, c3, d0, d1, d2, d3, f0, f1, f2, f3⟩ := BX
  clear hb
  go_wp2_with fail
  (try simp only [Exit.inBlock, Exit.then])
  refine bodyPost_ret (v := .tuple #[.agg #[.string (s.extract 0 i), .string ⟨#[69, 120, 105, 115, 116, 115]⟩, .string ⟨#[]⟩, .string (s.extract (i + 1) s.size)], .int .i64 0]) ?_ rfl ⟨rfl, below_set4 HB.out _ _ _ _ _ (Nat.le_refl _)⟩
  rw [results_cell_tmp rfl]
  go_simp
  try rfl
set_option maxHeartbeats 4000000 in
set_option maxRecDepth 100000 in
theorem qpo_c_key_bad (s : ByteArray) (w : World) (i : Nat) (g : s.size ≤ 256) (h : lst s 58 = i) (hi : i < s.size) (hf : emB (s.extract (i + 1) s.size) = false) (hr : emB (s.extract 0 i) = false) (h2 : idx (s.extract 0 i) 61 = -1) (hx : eqS (s.extract 0 i) ⟨#[42]⟩ = false) (hE : oE ((s.extract 0 i), ⟨#[69, 120, 105, 115, 116, 115]⟩, ⟨#[]⟩, (s.extract (i + 1) s.size)) ≠ 0) : Calls Tryz.prog 21 #[.string s] w fun e w' => e = .returned (.tuple #[ov none4, .int .i64 (oE ((s.extract 0 i), ⟨#[69, 120, 105, 115, 116, 115]⟩, ⟨#[]⟩, (s.extract (i + 1) s.size)))]) ∧ Below w.heap.size w w' := by
  have HL := hid (fun W => qlast_any s W (by unfold maxLen; omega))
  have g' : ¬ (256 : Int) < (s.size : Int) := by omega
  rw [h] at HL
  have hz : (s.extract 0 i).size = i := by rw [ByteArray.size_extract]; omega
  have g0 : (0 : Int) ≤ (i : Int) := by omega
  have gi2 : (i : Int) ≤ (s.size : Int) := by omega
  have gi3 : (i : Int) + 1 ≤ (s.size : Int) := by omega
  have hf' : (s.extract (i + 1) s.size).toList.isEmpty = false := hf
  have hr' : (s.extract 0 i).toList.isEmpty = false := hr
  have HI := hid (fun W => qfirst_any (s.extract 0 i) W (by unfold maxLen; omega))
  rw [h2] at HI
  have hx' : ((s.extract 0 i).toList == [42]) = false := by have h := hx; unfold eqS at h; rw [l42] at h; exact h
  clear hx
  have HT := hid (fun W => qctol_any ((s.extract 0 i), ⟨#[69, 120, 105, 115, 116, 115]⟩, ⟨#[]⟩, (s.extract (i + 1) s.size)) W (show (s.extract 0 i).size ≤ maxLen by unfold maxLen; omega) (show (⟨#[]⟩ : ByteArray).size ≤ maxLen by unfold maxLen; decide))
  generalize oE ((s.extract 0 i), ⟨#[69, 120, 105, 115, 116, 115]⟩, ⟨#[]⟩, (s.extract (i + 1) s.size)) = er at *
  have hE' : (er != 0) = true := by simpa using hE
  clear hE hr h2 hf h
  simp only [ov, none4] at *
  have BX0 := hid (box4_drew w (.string (s.extract 0 i)) (.string ⟨#[69, 120, 105, 115, 116, 115]⟩) (.string ⟨#[]⟩) (.string (s.extract (i + 1) s.size)) 27 27)
  have HB0 := hid (show Below w.heap.size w ((w.alloc (.cells #[.string ⟨#[]⟩, .string ⟨#[]⟩, .string ⟨#[]⟩, .string ⟨#[]⟩] 27)).alloc (.cells #[.string (s.extract 0 i), .string ⟨#[69, 120, 105, 115, 116, 115]⟩, .string ⟨#[]⟩, .string (s.extract (i + 1) s.size)] 27)).drew from (below2 w _ _).drew)
  go_enter Tryz.func21, Tryz.ntmps21
  go_wp2_with fail
  refine (HL.out _).mono ?_
  rintro e w1 ⟨rfl, hww⟩; subst hww
  go_wp2_with fail
  go_region
  go_wp2_with fail
  refine (HI.out _).mono ?_
  rintro e w1 ⟨rfl, hww⟩; subst hww
  go_wp2_with fail
  refine (HT.out _).mono ?_
  rintro e w2 ⟨rfl, hb⟩
  have BX := BX0.out.low hb (by simp)
  have HB := hid (HB0.out.trans (hb.mono HB0.out.size))
  obtain ⟨c0, c1, c2, c3, d0, d1, d2, d3, f0, f1, f2, f3⟩ := BX
  clear hb
  go_wp2_with fail
  (try simp only [Exit.inBlock, Exit.then])
  refine bodyPost_ret (v := .tuple #[.agg #[.string ByteArray.empty, .string ByteArray.empty, .string ByteArray.empty, .string ByteArray.empty], .int .i64 er]) ?_ rfl ⟨rfl, below_set4 HB.out _ _ _ _ _ (Nat.le_refl _)⟩
  rw [results_cell_tmp rfl]
  go_simp
  try rfl
set_option maxHeartbeats 4000000 in
set_option maxRecDepth 100000 in
theorem qpo_c_sign_ok (s : ByteArray) (w : World) (i : Nat) (g : s.size ≤ 256) (h : lst s 58 = i) (hi : i < s.size) (hf : emB (s.extract (i + 1) s.size) = false) (hr : emB (s.extract 0 i) = false) (j : Nat) (h2 : idx (s.extract 0 i) 61 = j) (hj : j < (s.extract 0 i).size) (hE : oE (((s.extract 0 i).extract 0 j), ⟨#[69, 113, 117, 97, 108]⟩, ((s.extract 0 i).extract (j + 1) (s.extract 0 i).size), (s.extract (i + 1) s.size)) = 0) : Calls Tryz.prog 21 #[.string s] w fun e w' => e = .returned (.tuple #[ov (((s.extract 0 i).extract 0 j), ⟨#[69, 113, 117, 97, 108]⟩, ((s.extract 0 i).extract (j + 1) (s.extract 0 i).size), (s.extract (i + 1) s.size)), .int .i64 0]) ∧ Below w.heap.size w w' := by
  have HL := hid (fun W => qlast_any s W (by unfold maxLen; omega))
  have g' : ¬ (256 : Int) < (s.size : Int) := by omega
  rw [h] at HL
  have hz : (s.extract 0 i).size = i := by rw [ByteArray.size_extract]; omega
  have g0 : (0 : Int) ≤ (i : Int) := by omega
  have gi2 : (i : Int) ≤ (s.size : Int) := by omega
  have gi3 : (i : Int) + 1 ≤ (s.size : Int) := by omega
  have hf' : (s.extract (i + 1) s.size).toList.isEmpty = false := hf
  have hr' : (s.extract 0 i).toList.isEmpty = false := hr
  have HI := hid (fun W => qfirst_any (s.extract 0 i) W (by unfold maxLen; omega))
  rw [h2] at HI
  have gj : (0 : Int) ≤ (j : Int) := by omega
  have gj2 : (j : Int) ≤ (i : Int) := by omega
  have gj3 : (j : Int) + 1 ≤ (i : Int) := by omega
  rw [hz] at hj hE ⊢
  have HT := hid (fun W => qctol_any (((s.extract 0 i).extract 0 j), ⟨#[69, 113, 117, 97, 108]⟩, ((s.extract 0 i).extract (j + 1) i), (s.extract (i + 1) s.size)) W (show ((s.extract 0 i).extract 0 j).size ≤ maxLen by rw [ByteArray.size_extract]; unfold maxLen; omega) (show ((s.extract 0 i).extract (j + 1) i).size ≤ maxLen by rw [ByteArray.size_extract]; unfold maxLen; omega))
  rw [hE] at HT
  clear hE hr h2 hf h
  simp only [ov] at *
  have BX0 := hid (box4_drew w (.string ((s.extract 0 i).extract 0 j)) (.string ⟨#[69, 113, 117, 97, 108]⟩) (.string ((s.extract 0 i).extract (j + 1) i)) (.string (s.extract (i + 1) s.size)) 27 27)
  have HB0 := hid (show Below w.heap.size w ((w.alloc (.cells #[.string ⟨#[]⟩, .string ⟨#[]⟩, .string ⟨#[]⟩, .string ⟨#[]⟩] 27)).alloc (.cells #[.string ((s.extract 0 i).extract 0 j), .string ⟨#[69, 113, 117, 97, 108]⟩, .string ((s.extract 0 i).extract (j + 1) i), .string (s.extract (i + 1) s.size)] 27)).drew from (below2 w _ _).drew)
  go_enter Tryz.func21, Tryz.ntmps21
  go_wp2_with fail
  refine (HL.out _).mono ?_
  rintro e w1 ⟨rfl, hww⟩; subst hww
  go_wp2_with fail
  go_region
  go_wp2_with fail
  refine (HI.out _).mono ?_
  rintro e w1 ⟨rfl, hww⟩; subst hww
  go_wp2_with fail
  refine (HT.out _).mono ?_
  rintro e w2 ⟨rfl, hb⟩
  have BX := BX0.out.low hb (by simp)
  have HB := hid (HB0.out.trans (hb.mono HB0.out.size))
  obtain ⟨c0, c1, c2, c3, d0, d1, d2, d3, f0, f1, f2, f3⟩ := BX
  clear hb
  go_wp2_with fail
  (try simp only [Exit.inBlock, Exit.then])
  refine bodyPost_ret (v := .tuple #[.agg #[.string ((s.extract 0 i).extract 0 j), .string ⟨#[69, 113, 117, 97, 108]⟩, .string ((s.extract 0 i).extract (j + 1) i), .string (s.extract (i + 1) s.size)], .int .i64 0]) ?_ rfl ⟨rfl, below_set4 HB.out _ _ _ _ _ (Nat.le_refl _)⟩
  rw [results_cell_tmp rfl]
  go_simp
  try rfl
set_option maxHeartbeats 4000000 in
set_option maxRecDepth 100000 in
theorem qpo_c_sign_bad (s : ByteArray) (w : World) (i : Nat) (g : s.size ≤ 256) (h : lst s 58 = i) (hi : i < s.size) (hf : emB (s.extract (i + 1) s.size) = false) (hr : emB (s.extract 0 i) = false) (j : Nat) (h2 : idx (s.extract 0 i) 61 = j) (hj : j < (s.extract 0 i).size) (hE : oE (((s.extract 0 i).extract 0 j), ⟨#[69, 113, 117, 97, 108]⟩, ((s.extract 0 i).extract (j + 1) (s.extract 0 i).size), (s.extract (i + 1) s.size)) ≠ 0) : Calls Tryz.prog 21 #[.string s] w fun e w' => e = .returned (.tuple #[ov none4, .int .i64 (oE (((s.extract 0 i).extract 0 j), ⟨#[69, 113, 117, 97, 108]⟩, ((s.extract 0 i).extract (j + 1) (s.extract 0 i).size), (s.extract (i + 1) s.size)))]) ∧ Below w.heap.size w w' := by
  have HL := hid (fun W => qlast_any s W (by unfold maxLen; omega))
  have g' : ¬ (256 : Int) < (s.size : Int) := by omega
  rw [h] at HL
  have hz : (s.extract 0 i).size = i := by rw [ByteArray.size_extract]; omega
  have g0 : (0 : Int) ≤ (i : Int) := by omega
  have gi2 : (i : Int) ≤ (s.size : Int) := by omega
  have gi3 : (i : Int) + 1 ≤ (s.size : Int) := by omega
  have hf' : (s.extract (i + 1) s.size).toList.isEmpty = false := hf
  have hr' : (s.extract 0 i).toList.isEmpty = false := hr
  have HI := hid (fun W => qfirst_any (s.extract 0 i) W (by unfold maxLen; omega))
  rw [h2] at HI
  have gj : (0 : Int) ≤ (j : Int) := by omega
  have gj2 : (j : Int) ≤ (i : Int) := by omega
  have gj3 : (j : Int) + 1 ≤ (i : Int) := by omega
  rw [hz] at hj hE ⊢
  have HT := hid (fun W => qctol_any (((s.extract 0 i).extract 0 j), ⟨#[69, 113, 117, 97, 108]⟩, ((s.extract 0 i).extract (j + 1) i), (s.extract (i + 1) s.size)) W (show ((s.extract 0 i).extract 0 j).size ≤ maxLen by rw [ByteArray.size_extract]; unfold maxLen; omega) (show ((s.extract 0 i).extract (j + 1) i).size ≤ maxLen by rw [ByteArray.size_extract]; unfold maxLen; omega))
  generalize oE (((s.extract 0 i).extract 0 j), ⟨#[69, 113, 117, 97, 108]⟩, ((s.extract 0 i).extract (j + 1) i), (s.extract (i + 1) s.size)) = er at *
  have hE' : (er != 0) = true := by simpa using hE
  clear hE hr h2 hf h
  simp only [ov, none4] at *
  have BX0 := hid (box4_drew w (.string ((s.extract 0 i).extract 0 j)) (.string ⟨#[69, 113, 117, 97, 108]⟩) (.string ((s.extract 0 i).extract (j + 1) i)) (.string (s.extract (i + 1) s.size)) 27 27)
  have HB0 := hid (show Below w.heap.size w ((w.alloc (.cells #[.string ⟨#[]⟩, .string ⟨#[]⟩, .string ⟨#[]⟩, .string ⟨#[]⟩] 27)).alloc (.cells #[.string ((s.extract 0 i).extract 0 j), .string ⟨#[69, 113, 117, 97, 108]⟩, .string ((s.extract 0 i).extract (j + 1) i), .string (s.extract (i + 1) s.size)] 27)).drew from (below2 w _ _).drew)
  go_enter Tryz.func21, Tryz.ntmps21
  go_wp2_with fail
  refine (HL.out _).mono ?_
  rintro e w1 ⟨rfl, hww⟩; subst hww
  go_wp2_with fail
  go_region
  go_wp2_with fail
  refine (HI.out _).mono ?_
  rintro e w1 ⟨rfl, hww⟩; subst hww
  go_wp2_with fail
  refine (HT.out _).mono ?_
  rintro e w2 ⟨rfl, hb⟩
  have BX := BX0.out.low hb (by simp)
  have HB := hid (HB0.out.trans (hb.mono HB0.out.size))
  obtain ⟨c0, c1, c2, c3, d0, d1, d2, d3, f0, f1, f2, f3⟩ := BX
  clear hb
  go_wp2_with fail
  (try simp only [Exit.inBlock, Exit.then])
  refine bodyPost_ret (v := .tuple #[.agg #[.string ByteArray.empty, .string ByteArray.empty, .string ByteArray.empty, .string ByteArray.empty], .int .i64 er]) ?_ rfl ⟨rfl, below_set4 HB.out _ _ _ _ _ (Nat.le_refl _)⟩
  rw [results_cell_tmp rfl]
  go_simp
  try rfl
theorem qptol_any (s : ByteArray) (w : World) (hs : s.size ≤ maxLen) : Calls Tryz.prog 21 #[.string s] w fun e w' => e = .returned (.tuple #[ov (pO s).1, .int .i64 (pO s).2]) ∧ Below w.heap.size w w' := by
  unfold pO
  by_cases g : 256 < s.size
  · rw [if_pos (by rw [decide_eq_true g]; rfl)]
    exact qpo_long s w hs g
  · rw [decide_eq_false g, Bool.false_or]
    rcases lst_parts (s := s) (c := 58) with ⟨h, _⟩ | ⟨i, h, hi, _⟩
    · have ec : oCut s = (s, ByteArray.empty, false) := by unfold oCut; rw [if_pos h]
      rw [ec]
      simp only [Bool.false_and, Bool.false_or]
      cases hr : emB s
      · rw [if_neg (by decide)]
        rcases idx_cases s 61 with h2 | ⟨j, h2, hj⟩
        · cases hx : eqS s ⟨#[42]⟩
          · have e : withE (rRest s) ByteArray.empty = (s, sEx, ⟨#[]⟩, ByteArray.empty) := by unfold rRest; rw [if_pos h2, hx, if_neg (by decide)]; rfl
            rw [e]
            by_cases hE : oE (s, sEx, ⟨#[]⟩, ByteArray.empty) = 0
            · rw [if_pos hE]
              exact qpo_n_key_ok s w (by omega) h hr h2 hx hE
            · rw [if_neg hE]
              exact qpo_n_key_bad s w (by omega) h hr h2 hx hE
          · have e : withE (rRest s) ByteArray.empty = (⟨#[]⟩, sEx, ⟨#[]⟩, ByteArray.empty) := by unfold rRest; rw [if_pos h2, hx, if_pos rfl]; rfl
            rw [e]
            by_cases hE : oE (⟨#[]⟩, sEx, ⟨#[]⟩, ByteArray.empty) = 0
            · rw [if_pos hE]
              exact qpo_n_star_ok s w (by omega) h hr h2 hx hE
            · rw [if_neg hE]
              exact qpo_n_star_bad s w (by omega) h hr h2 hx hE
        · have e : withE (rRest s) ByteArray.empty = (s.extract 0 j, sEq, s.extract (j + 1) s.size, ByteArray.empty) := by unfold rRest; rw [h2, if_neg (by omega)]; rfl
          rw [e]
          by_cases hE : oE (s.extract 0 j, sEq, s.extract (j + 1) s.size, ByteArray.empty) = 0
          · rw [if_pos hE]
            exact qpo_n_sign_ok s w (by omega) h hr j h2 hj hE
          · rw [if_neg hE]
            exact qpo_n_sign_bad s w (by omega) h hr j h2 hj hE
      · rw [if_pos rfl]
        exact qpo_n_rest s w (by omega) h hr
    · have ec : oCut s = (s.extract 0 i, s.extract (i + 1) s.size, true) := by unfold oCut; rw [h, if_neg (by omega)]; rfl
      rw [ec]
      simp only [Bool.true_and]
      cases hf : emB (s.extract (i + 1) s.size)
      · rw [Bool.false_or]
        cases hr : emB (s.extract 0 i)
        · rw [if_neg (by decide)]
          rcases idx_cases (s.extract 0 i) 61 with h2 | ⟨j, h2, hj⟩
          · cases hx : eqS (s.extract 0 i) ⟨#[42]⟩
            · have e : withE (rRest (s.extract 0 i)) (s.extract (i + 1) s.size) = ((s.extract 0 i), sEx, ⟨#[]⟩, (s.extract (i + 1) s.size)) := by unfold rRest; rw [if_pos h2, hx, if_neg (by decide)]; rfl
              rw [e]
              by_cases hE : oE ((s.extract 0 i), sEx, ⟨#[]⟩, (s.extract (i + 1) s.size)) = 0
              · rw [if_pos hE]
                exact qpo_c_key_ok s w i (by omega) h hi hf hr h2 hx hE
              · rw [if_neg hE]
                exact qpo_c_key_bad s w i (by omega) h hi hf hr h2 hx hE
            · have e : withE (rRest (s.extract 0 i)) (s.extract (i + 1) s.size) = (⟨#[]⟩, sEx, ⟨#[]⟩, (s.extract (i + 1) s.size)) := by unfold rRest; rw [if_pos h2, hx, if_pos rfl]; rfl
              rw [e]
              by_cases hE : oE (⟨#[]⟩, sEx, ⟨#[]⟩, (s.extract (i + 1) s.size)) = 0
              · rw [if_pos hE]
                exact qpo_c_star_ok s w i (by omega) h hi hf hr h2 hx hE
              · rw [if_neg hE]
                exact qpo_c_star_bad s w i (by omega) h hi hf hr h2 hx hE
          · have e : withE (rRest (s.extract 0 i)) (s.extract (i + 1) s.size) = ((s.extract 0 i).extract 0 j, sEq, (s.extract 0 i).extract (j + 1) (s.extract 0 i).size, (s.extract (i + 1) s.size)) := by unfold rRest; rw [h2, if_neg (by omega)]; rfl
            rw [e]
            by_cases hE : oE ((s.extract 0 i).extract 0 j, sEq, (s.extract 0 i).extract (j + 1) (s.extract 0 i).size, (s.extract (i + 1) s.size)) = 0
            · rw [if_pos hE]
              exact qpo_c_sign_ok s w i (by omega) h hi hf hr j h2 hj hE
            · rw [if_neg hE]
              exact qpo_c_sign_bad s w i (by omega) h hi hf hr j h2 hj hE
        · rw [if_pos rfl]
          exact qpo_c_rest s w i (by omega) h hi hf hr
      · rw [Bool.true_or, if_pos rfl]
        exact qpo_c_eff s w i (by omega) h hi hf
end Go.Proofs.YtppblibcbjpfnaaGreatDoor.L
