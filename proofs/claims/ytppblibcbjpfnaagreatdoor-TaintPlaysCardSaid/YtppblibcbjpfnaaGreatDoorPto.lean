import Derived.Test.YtppblibcbjpfnaaGreatDoorOtp
namespace Go.Proofs.YtppblibcbjpfnaaGreatDoor.L
open Go.RowKit
set_option linter.unusedVariables false
def none4 : To := (ByteArray.empty, ByteArray.empty, ByteArray.empty, ByteArray.empty)
def withE (o : To) (f : ByteArray) : To := (o.1, o.2.1, o.2.2.1, f)
/-- What a text writes: what stands ahead of the last colon, what behind it, was there one. -/
def oCut (s : ByteArray) : ByteArray × ByteArray × Bool := if lst s 58 = -1 then (s, ByteArray.empty, false) else (s.extract 0 (lst s 58).toNat, s.extract ((lst s 58).toNat + 1) s.size, true)
def pO (s : ByteArray) : To × Int :=
  if (decide (256 < s.size) || ((oCut s).2.2 && emB (oCut s).2.1) || emB (oCut s).1) = true then (none4, 43) else
  if oE (withE (rRest (oCut s).1) (oCut s).2.1) = 0 then (withE (rRest (oCut s).1) (oCut s).2.1, 0) else (none4, oE (withE (rRest (oCut s).1) (oCut s).2.1))
theorem ocut_any (s : ByteArray) (w : World) (hs : s.size ≤ maxLen) : Calls Tryz.prog 40 #[.string s] w fun e w' => e = .returned (.tuple #[.string (oCut s).1, .string (oCut s).2.1, .bool (oCut s).2.2]) ∧ ∃ n, w' = w.drewN n := by
  rcases lst_parts (s := s) (c := 58) with ⟨h, _⟩ | ⟨i, h, hi, _⟩
  · have e : oCut s = (s, ByteArray.empty, false) := by unfold oCut; rw [if_pos h]
    rw [e]
    refine (cutl_no s w hs h).mono ?_
    rintro e w' ⟨rfl, rfl⟩
    exact ⟨rfl, 0, rfl⟩
  · have e : oCut s = (s.extract 0 i, s.extract (i + 1) s.size, true) := by unfold oCut; rw [h, if_neg (by omega)]; rfl
    rw [e]
    exact cutl_yes s i w hs h hi
theorem ocut_size (s : ByteArray) : (oCut s).1.size ≤ s.size ∧ (oCut s).2.1.size ≤ s.size := by
  unfold oCut
  split
  · exact ⟨Nat.le_refl _, Nat.zero_le _⟩
  · simp only [ByteArray.size_extract]
    omega
theorem rrest_size (r : ByteArray) : (rRest r).1.size ≤ r.size ∧ (rRest r).2.2.1.size ≤ r.size := by
  unfold rRest
  split
  · split
    · exact ⟨Nat.zero_le _, Nat.zero_le _⟩
    · exact ⟨Nat.le_refl _, Nat.zero_le _⟩
  · simp only [ByteArray.size_extract]
    omega
/-- The result's box. -/
structure Res4 (W : World) (b : Nat) : Prop where
  c0 : W.cell? ⟨b, 0, none⟩ = some (.string ⟨#[]⟩)
  c1 : W.cell? ⟨b, 1, none⟩ = some (.string ⟨#[]⟩)
  c2 : W.cell? ⟨b, 2, none⟩ = some (.string ⟨#[]⟩)
  c3 : W.cell? ⟨b, 3, none⟩ = some (.string ⟨#[]⟩)
  f0 : W.frozen? ⟨b, 0, none⟩ = false
  f1 : W.frozen? ⟨b, 1, none⟩ = false
  f2 : W.frozen? ⟨b, 2, none⟩ = false
  f3 : W.frozen? ⟨b, 3, none⟩ = false
  lt : b < W.heap.size
theorem res4_new (w : World) (t : TypeId) : Res4 (w.alloc (.cells #[.string ⟨#[]⟩, .string ⟨#[]⟩, .string ⟨#[]⟩, .string ⟨#[]⟩] t)) w.heap.size := by
  have h : (w.alloc (.cells #[.string ⟨#[]⟩, .string ⟨#[]⟩, .string ⟨#[]⟩, .string ⟨#[]⟩] t)).heap[w.heap.size]? = some (.cells #[.string ⟨#[]⟩, .string ⟨#[]⟩, .string ⟨#[]⟩, .string ⟨#[]⟩] t) := by
    show (w.heap.push _)[w.heap.size]? = _
    simp
  refine ⟨?_, ?_, ?_, ?_, ?_, ?_, ?_, ?_, by simp⟩
  · unfold World.cell?; rw [h]; rfl
  · unfold World.cell?; rw [h]; rfl
  · unfold World.cell?; rw [h]; rfl
  · unfold World.cell?; rw [h]; rfl
  · unfold World.frozen?; rw [h]; rfl
  · unfold World.frozen?; rw [h]; rfl
  · unfold World.frozen?; rw [h]; rfl
  · unfold World.frozen?; rw [h]; rfl
theorem Res4.low {W W' : World} {b : Nat} (h : Res4 W b) (hb : Below W.heap.size W W') : Res4 W' b := by
  obtain ⟨a0, a1, a2, a3, a4, a5, a6, a7, lt⟩ := h
  refine ⟨?_, ?_, ?_, ?_, ?_, ?_, ?_, ?_, Nat.lt_of_lt_of_le lt hb.size⟩
  · exact (hb.cell (p := ⟨b, 0, none⟩) lt).trans a0
  · exact (hb.cell (p := ⟨b, 1, none⟩) lt).trans a1
  · exact (hb.cell (p := ⟨b, 2, none⟩) lt).trans a2
  · exact (hb.cell (p := ⟨b, 3, none⟩) lt).trans a3
  · unfold World.frozen? at *; rw [hb.block b lt]; exact a4
  · unfold World.frozen? at *; rw [hb.block b lt]; exact a5
  · unfold World.frozen? at *; rw [hb.block b lt]; exact a6
  · unfold World.frozen? at *; rw [hb.block b lt]; exact a7
set_option maxHeartbeats 8000000 in
theorem po_long (s : ByteArray) (w : World) (hs : s.size ≤ maxLen) (g : 256 < s.size) : Calls Tryz.prog 20 #[.string s] w fun e w' => e = .returned (.tuple #[ov none4, .int .i64 43]) ∧ Below w.heap.size w w' := by
  have HC := hid (fun W => ocut_any s W hs)
  unfold maxLen at hs
  obtain ⟨z1, z2⟩ := ocut_size s
  generalize oCut s = c at *
  obtain ⟨r, f, fd⟩ := c
  simp only at *
  have g1 : (256 : Int) < (s.size : Int) := by omega
  have R0 := hid (res4_new w 27)
  have B0 := hid (belowA w (.cells #[.string ⟨#[]⟩, .string ⟨#[]⟩, .string ⟨#[]⟩, .string ⟨#[]⟩] 27))
  go_enter Tryz.func20, Tryz.ntmps20
  go_wp2_with fail
  refine (HC.out _).mono ?_
  rintro e w1 ⟨rfl, n, hww⟩; subst hww
  have R1 := hid (R0.out.low (below_drewN (Below.refl _ _) n))
  have B1 := hid (below_drewN B0.out n)
  clear R0 B0
  generalize (w.alloc (.cells #[.string ⟨#[]⟩, .string ⟨#[]⟩, .string ⟨#[]⟩, .string ⟨#[]⟩] 27)).drewN n = W1 at *
  have r0 := R1.out.c0
  have r1 := R1.out.c1
  have r2 := R1.out.c2
  have r3 := R1.out.c3
  have r4 := R1.out.f0
  have r5 := R1.out.f1
  have r6 := R1.out.f2
  have r7 := R1.out.f3
  have r8 := R1.out.lt
  go_wp2_with fail
  (try simp only [Exit.inBlock, Exit.then])
  refine bodyPost_ret (v := .tuple #[ov none4, .int .i64 43]) ?_ rfl ⟨rfl, below_set4 B1.out _ _ _ _ _ (Nat.le_refl _)⟩
  rw [results_cell_tmp rfl]
  go_simp
  rfl
set_option maxHeartbeats 8000000 in
theorem po_eff (s : ByteArray) (w : World) (hs : s.size ≤ maxLen) (g : s.size ≤ 256) (h1 : (oCut s).2.2 = true) (h2 : emB (oCut s).2.1 = true) : Calls Tryz.prog 20 #[.string s] w fun e w' => e = .returned (.tuple #[ov none4, .int .i64 43]) ∧ Below w.heap.size w w' := by
  have HC := hid (fun W => ocut_any s W hs)
  unfold maxLen at hs
  obtain ⟨z1, z2⟩ := ocut_size s
  generalize oCut s = c at *
  obtain ⟨r, f, fd⟩ := c
  simp only at *
  subst h1
  have g1 : ¬ (256 : Int) < (s.size : Int) := by omega
  have g2 : f.toList.isEmpty = true := h2
  clear h2
  have R0 := hid (res4_new w 27)
  have B0 := hid (belowA w (.cells #[.string ⟨#[]⟩, .string ⟨#[]⟩, .string ⟨#[]⟩, .string ⟨#[]⟩] 27))
  go_enter Tryz.func20, Tryz.ntmps20
  go_wp2_with fail
  refine (HC.out _).mono ?_
  rintro e w1 ⟨rfl, n, hww⟩; subst hww
  have R1 := hid (R0.out.low (below_drewN (Below.refl _ _) n))
  have B1 := hid (below_drewN B0.out n)
  clear R0 B0
  generalize (w.alloc (.cells #[.string ⟨#[]⟩, .string ⟨#[]⟩, .string ⟨#[]⟩, .string ⟨#[]⟩] 27)).drewN n = W1 at *
  have r0 := R1.out.c0
  have r1 := R1.out.c1
  have r2 := R1.out.c2
  have r3 := R1.out.c3
  have r4 := R1.out.f0
  have r5 := R1.out.f1
  have r6 := R1.out.f2
  have r7 := R1.out.f3
  have r8 := R1.out.lt
  go_wp2_with fail
  (try simp only [Exit.inBlock, Exit.then])
  refine bodyPost_ret (v := .tuple #[ov none4, .int .i64 43]) ?_ rfl ⟨rfl, below_set4 B1.out _ _ _ _ _ (Nat.le_refl _)⟩
  rw [results_cell_tmp rfl]
  go_simp
  rfl
set_option maxHeartbeats 8000000 in
theorem po_rest (s : ByteArray) (w : World) (hs : s.size ≤ maxLen) (g : s.size ≤ 256) (h1 : (oCut s).2.2 = false ∨ ((oCut s).2.2 = true ∧ emB (oCut s).2.1 = false)) (h3 : emB (oCut s).1 = true) : Calls Tryz.prog 20 #[.string s] w fun e w' => e = .returned (.tuple #[ov none4, .int .i64 43]) ∧ Below w.heap.size w w' := by
  have HC := hid (fun W => ocut_any s W hs)
  unfold maxLen at hs
  obtain ⟨z1, z2⟩ := ocut_size s
  generalize oCut s = c at *
  obtain ⟨r, f, fd⟩ := c
  simp only at *
  have g1 : ¬ (256 : Int) < (s.size : Int) := by omega
  have g3 : r.toList.isEmpty = true := h3
  clear h3
  rcases h1 with h1 | ⟨h1, h2⟩
  · subst h1
    have R0 := hid (res4_new w 27)
    have B0 := hid (belowA w (.cells #[.string ⟨#[]⟩, .string ⟨#[]⟩, .string ⟨#[]⟩, .string ⟨#[]⟩] 27))
    go_enter Tryz.func20, Tryz.ntmps20
    go_wp2_with fail
    refine (HC.out _).mono ?_
    rintro e w1 ⟨rfl, n, hww⟩; subst hww
    have R1 := hid (R0.out.low (below_drewN (Below.refl _ _) n))
    have B1 := hid (below_drewN B0.out n)
    clear R0 B0
    generalize (w.alloc (.cells #[.string ⟨#[]⟩, .string ⟨#[]⟩, .string ⟨#[]⟩, .string ⟨#[]⟩] 27)).drewN n = W1 at *
    have r0 := R1.out.c0
    have r1 := R1.out.c1
    have r2 := R1.out.c2
    have r3 := R1.out.c3
    have r4 := R1.out.f0
    have r5 := R1.out.f1
    have r6 := R1.out.f2
    have r7 := R1.out.f3
    have r8 := R1.out.lt
    go_wp2_with fail
    (try simp only [Exit.inBlock, Exit.then])
    refine bodyPost_ret (v := .tuple #[ov none4, .int .i64 43]) ?_ rfl ⟨rfl, below_set4 B1.out _ _ _ _ _ (Nat.le_refl _)⟩
    rw [results_cell_tmp rfl]
    go_simp
    rfl
  · subst h1
    have g2 : f.toList.isEmpty = false := h2
    clear h2
    have R0 := hid (res4_new w 27)
    have B0 := hid (belowA w (.cells #[.string ⟨#[]⟩, .string ⟨#[]⟩, .string ⟨#[]⟩, .string ⟨#[]⟩] 27))
    go_enter Tryz.func20, Tryz.ntmps20
    go_wp2_with fail
    refine (HC.out _).mono ?_
    rintro e w1 ⟨rfl, n, hww⟩; subst hww
    have R1 := hid (R0.out.low (below_drewN (Below.refl _ _) n))
    have B1 := hid (below_drewN B0.out n)
    clear R0 B0
    generalize (w.alloc (.cells #[.string ⟨#[]⟩, .string ⟨#[]⟩, .string ⟨#[]⟩, .string ⟨#[]⟩] 27)).drewN n = W1 at *
    have r0 := R1.out.c0
    have r1 := R1.out.c1
    have r2 := R1.out.c2
    have r3 := R1.out.c3
    have r4 := R1.out.f0
    have r5 := R1.out.f1
    have r6 := R1.out.f2
    have r7 := R1.out.f3
    have r8 := R1.out.lt
    go_wp2_with fail
    (try simp only [Exit.inBlock, Exit.then])
    refine bodyPost_ret (v := .tuple #[ov none4, .int .i64 43]) ?_ rfl ⟨rfl, below_set4 B1.out _ _ _ _ _ (Nat.le_refl _)⟩
    rw [results_cell_tmp rfl]
    go_simp
    rfl
set_option maxHeartbeats 8000000 in
theorem po_ok (s : ByteArray) (w : World) (hs : s.size ≤ maxLen) (g : s.size ≤ 256) (h1 : (oCut s).2.2 = false ∨ ((oCut s).2.2 = true ∧ emB (oCut s).2.1 = false)) (h3 : emB (oCut s).1 = false) (hE : oE (withE (rRest (oCut s).1) (oCut s).2.1) = 0) : Calls Tryz.prog 20 #[.string s] w fun e w' => e = .returned (.tuple #[ov (withE (rRest (oCut s).1) (oCut s).2.1), .int .i64 0]) ∧ Below w.heap.size w w' := by
  have HC := hid (fun W => ocut_any s W hs)
  unfold maxLen at hs
  obtain ⟨z1, z2⟩ := ocut_size s
  have HR := hid (fun W => rest_any (oCut s).1 W (by unfold maxLen; omega))
  have rs := rrest_size (oCut s).1
  have HT := hid (fun W => ctol_any (withE (rRest (oCut s).1) (oCut s).2.1) W (show (rRest (oCut s).1).1.size ≤ maxLen by unfold maxLen; omega) (show (rRest (oCut s).1).2.2.1.size ≤ maxLen by unfold maxLen; omega))
  rw [hE] at HT
  clear hE
  generalize oCut s = c at *
  obtain ⟨r, f, fd⟩ := c
  simp only [withE] at *
  generalize rRest r = o at *
  obtain ⟨k, p, v, q⟩ := o
  simp only [ov] at *
  have g1 : ¬ (256 : Int) < (s.size : Int) := by omega
  have g3 : r.toList.isEmpty = false := h3
  clear h3
  rcases h1 with h1 | ⟨h1, h2⟩
  · subst h1
    have R0 := hid (res4_new w 27)
    have B0 := hid (belowA w (.cells #[.string ⟨#[]⟩, .string ⟨#[]⟩, .string ⟨#[]⟩, .string ⟨#[]⟩] 27))
    go_enter Tryz.func20, Tryz.ntmps20
    go_wp2_with fail
    refine (HC.out _).mono ?_
    rintro e w1 ⟨rfl, n, hww⟩; subst hww
    have R1 := hid (R0.out.low (below_drewN (Below.refl _ _) n))
    have B1 := hid (below_drewN B0.out n)
    clear R0 B0
    generalize (w.alloc (.cells #[.string ⟨#[]⟩, .string ⟨#[]⟩, .string ⟨#[]⟩, .string ⟨#[]⟩] 27)).drewN n = W1 at *
    have r0 := R1.out.c0
    have r1 := R1.out.c1
    have r2 := R1.out.c2
    have r3 := R1.out.c3
    have r4 := R1.out.f0
    have r5 := R1.out.f1
    have r6 := R1.out.f2
    have r7 := R1.out.f3
    have r8 := R1.out.lt
    go_wp2_with fail
    refine (HR.out _).mono ?_
    rintro e w2 ⟨rfl, hb⟩
    have R2 := hid (R1.out.low hb)
    have B2 := hid (B1.out.trans (hb.mono B1.out.size))
    clear hb R1 B1 r0 r1 r2 r3 r4 r5 r6 r7 r8
    go_wp2_with fail
    have D := hid (four_alloc w2 (.string k) (.string p) (.string v) (.string f) 27)
    have R3 := hid (R2.out.low (belowA w2 (.cells #[.string k, .string p, .string v, .string f] 27)))
    have B3 := hid (B2.out.alloc B2.out.size (.cells #[.string k, .string p, .string v, .string f] 27))
    have hz : w2.heap.size < (w2.alloc (.cells #[.string k, .string p, .string v, .string f] 27)).heap.size := by simp
    clear R2 B2
    refine (HT.out _).mono ?_
    rintro e w3 ⟨rfl, hb⟩
    obtain ⟨r0, r1, r2, r3, r4, r5, r6, r7, r8⟩ := R3.out.low hb
    obtain ⟨d0, d1, d2, d3⟩ := four_low D.out hb hz
    have B4 := hid (B3.out.trans (hb.mono B3.out.size))
    clear hb R3 B3 D
    go_wp2_with fail
    (try simp only [Exit.inBlock, Exit.then])
    refine bodyPost_ret (v := .tuple #[.agg #[.string k, .string p, .string v, .string f], .int .i64 0]) ?_ rfl ⟨rfl, below_set4 B4.out _ _ _ _ _ (Nat.le_refl _)⟩
    rw [results_cell_tmp rfl]
    go_simp
  · subst h1
    have g2 : f.toList.isEmpty = false := h2
    clear h2
    have R0 := hid (res4_new w 27)
    have B0 := hid (belowA w (.cells #[.string ⟨#[]⟩, .string ⟨#[]⟩, .string ⟨#[]⟩, .string ⟨#[]⟩] 27))
    go_enter Tryz.func20, Tryz.ntmps20
    go_wp2_with fail
    refine (HC.out _).mono ?_
    rintro e w1 ⟨rfl, n, hww⟩; subst hww
    have R1 := hid (R0.out.low (below_drewN (Below.refl _ _) n))
    have B1 := hid (below_drewN B0.out n)
    clear R0 B0
    generalize (w.alloc (.cells #[.string ⟨#[]⟩, .string ⟨#[]⟩, .string ⟨#[]⟩, .string ⟨#[]⟩] 27)).drewN n = W1 at *
    have r0 := R1.out.c0
    have r1 := R1.out.c1
    have r2 := R1.out.c2
    have r3 := R1.out.c3
    have r4 := R1.out.f0
    have r5 := R1.out.f1
    have r6 := R1.out.f2
    have r7 := R1.out.f3
    have r8 := R1.out.lt
    go_wp2_with fail
    refine (HR.out _).mono ?_
    rintro e w2 ⟨rfl, hb⟩
    have R2 := hid (R1.out.low hb)
    have B2 := hid (B1.out.trans (hb.mono B1.out.size))
    clear hb R1 B1 r0 r1 r2 r3 r4 r5 r6 r7 r8
    go_wp2_with fail
    have D := hid (four_alloc w2 (.string k) (.string p) (.string v) (.string f) 27)
    have R3 := hid (R2.out.low (belowA w2 (.cells #[.string k, .string p, .string v, .string f] 27)))
    have B3 := hid (B2.out.alloc B2.out.size (.cells #[.string k, .string p, .string v, .string f] 27))
    have hz : w2.heap.size < (w2.alloc (.cells #[.string k, .string p, .string v, .string f] 27)).heap.size := by simp
    clear R2 B2
    refine (HT.out _).mono ?_
    rintro e w3 ⟨rfl, hb⟩
    obtain ⟨r0, r1, r2, r3, r4, r5, r6, r7, r8⟩ := R3.out.low hb
    obtain ⟨d0, d1, d2, d3⟩ := four_low D.out hb hz
    have B4 := hid (B3.out.trans (hb.mono B3.out.size))
    clear hb R3 B3 D
    go_wp2_with fail
    (try simp only [Exit.inBlock, Exit.then])
    refine bodyPost_ret (v := .tuple #[.agg #[.string k, .string p, .string v, .string f], .int .i64 0]) ?_ rfl ⟨rfl, below_set4 B4.out _ _ _ _ _ (Nat.le_refl _)⟩
    rw [results_cell_tmp rfl]
    go_simp
set_option maxHeartbeats 8000000 in
theorem po_bad (s : ByteArray) (w : World) (hs : s.size ≤ maxLen) (g : s.size ≤ 256) (h1 : (oCut s).2.2 = false ∨ ((oCut s).2.2 = true ∧ emB (oCut s).2.1 = false)) (h3 : emB (oCut s).1 = false) (hE : oE (withE (rRest (oCut s).1) (oCut s).2.1) ≠ 0) : Calls Tryz.prog 20 #[.string s] w fun e w' => e = .returned (.tuple #[ov none4, .int .i64 (oE (withE (rRest (oCut s).1) (oCut s).2.1))]) ∧ Below w.heap.size w w' := by
  have HC := hid (fun W => ocut_any s W hs)
  unfold maxLen at hs
  obtain ⟨z1, z2⟩ := ocut_size s
  have HR := hid (fun W => rest_any (oCut s).1 W (by unfold maxLen; omega))
  have rs := rrest_size (oCut s).1
  have HT := hid (fun W => ctol_any (withE (rRest (oCut s).1) (oCut s).2.1) W (show (rRest (oCut s).1).1.size ≤ maxLen by unfold maxLen; omega) (show (rRest (oCut s).1).2.2.1.size ≤ maxLen by unfold maxLen; omega))
  generalize oE (withE (rRest (oCut s).1) (oCut s).2.1) = er at *
  have hE' : (er != 0) = true := by simpa using hE
  clear hE
  generalize oCut s = c at *
  obtain ⟨r, f, fd⟩ := c
  simp only [withE] at *
  generalize rRest r = o at *
  obtain ⟨k, p, v, q⟩ := o
  simp only [ov] at *
  have g1 : ¬ (256 : Int) < (s.size : Int) := by omega
  have g3 : r.toList.isEmpty = false := h3
  clear h3
  rcases h1 with h1 | ⟨h1, h2⟩
  · subst h1
    have R0 := hid (res4_new w 27)
    have B0 := hid (belowA w (.cells #[.string ⟨#[]⟩, .string ⟨#[]⟩, .string ⟨#[]⟩, .string ⟨#[]⟩] 27))
    go_enter Tryz.func20, Tryz.ntmps20
    go_wp2_with fail
    refine (HC.out _).mono ?_
    rintro e w1 ⟨rfl, n, hww⟩; subst hww
    have R1 := hid (R0.out.low (below_drewN (Below.refl _ _) n))
    have B1 := hid (below_drewN B0.out n)
    clear R0 B0
    generalize (w.alloc (.cells #[.string ⟨#[]⟩, .string ⟨#[]⟩, .string ⟨#[]⟩, .string ⟨#[]⟩] 27)).drewN n = W1 at *
    have r0 := R1.out.c0
    have r1 := R1.out.c1
    have r2 := R1.out.c2
    have r3 := R1.out.c3
    have r4 := R1.out.f0
    have r5 := R1.out.f1
    have r6 := R1.out.f2
    have r7 := R1.out.f3
    have r8 := R1.out.lt
    go_wp2_with fail
    refine (HR.out _).mono ?_
    rintro e w2 ⟨rfl, hb⟩
    have R2 := hid (R1.out.low hb)
    have B2 := hid (B1.out.trans (hb.mono B1.out.size))
    clear hb R1 B1 r0 r1 r2 r3 r4 r5 r6 r7 r8
    go_wp2_with fail
    have D := hid (four_alloc w2 (.string k) (.string p) (.string v) (.string f) 27)
    have R3 := hid (R2.out.low (belowA w2 (.cells #[.string k, .string p, .string v, .string f] 27)))
    have B3 := hid (B2.out.alloc B2.out.size (.cells #[.string k, .string p, .string v, .string f] 27))
    have hz : w2.heap.size < (w2.alloc (.cells #[.string k, .string p, .string v, .string f] 27)).heap.size := by simp
    clear R2 B2
    refine (HT.out _).mono ?_
    rintro e w3 ⟨rfl, hb⟩
    obtain ⟨r0, r1, r2, r3, r4, r5, r6, r7, r8⟩ := R3.out.low hb
    obtain ⟨d0, d1, d2, d3⟩ := four_low D.out hb hz
    have B4 := hid (B3.out.trans (hb.mono B3.out.size))
    clear hb R3 B3 D
    go_wp2_with fail
    (try simp only [Exit.inBlock, Exit.then])
    refine bodyPost_ret (v := .tuple #[ov none4, .int .i64 er]) ?_ rfl ⟨rfl, below_set4 B4.out _ _ _ _ _ (Nat.le_refl _)⟩
    rw [results_cell_tmp rfl]
    go_simp
    rfl
  · subst h1
    have g2 : f.toList.isEmpty = false := h2
    clear h2
    have R0 := hid (res4_new w 27)
    have B0 := hid (belowA w (.cells #[.string ⟨#[]⟩, .string ⟨#[]⟩, .string ⟨#[]⟩, .string ⟨#[]⟩] 27))
    go_enter Tryz.func20, Tryz.ntmps20
    go_wp2_with fail
    refine (HC.out _).mono ?_
    rintro e w1 ⟨rfl, n, hww⟩; subst hww
    have R1 := hid (R0.out.low (below_drewN (Below.refl _ _) n))
    have B1 := hid (below_drewN B0.out n)
    clear R0 B0
    generalize (w.alloc (.cells #[.string ⟨#[]⟩, .string ⟨#[]⟩, .string ⟨#[]⟩, .string ⟨#[]⟩] 27)).drewN n = W1 at *
    have r0 := R1.out.c0
    have r1 := R1.out.c1
    have r2 := R1.out.c2
    have r3 := R1.out.c3
    have r4 := R1.out.f0
    have r5 := R1.out.f1
    have r6 := R1.out.f2
    have r7 := R1.out.f3
    have r8 := R1.out.lt
    go_wp2_with fail
    refine (HR.out _).mono ?_
    rintro e w2 ⟨rfl, hb⟩
    have R2 := hid (R1.out.low hb)
    have B2 := hid (B1.out.trans (hb.mono B1.out.size))
    clear hb R1 B1 r0 r1 r2 r3 r4 r5 r6 r7 r8
    go_wp2_with fail
    have D := hid (four_alloc w2 (.string k) (.string p) (.string v) (.string f) 27)
    have R3 := hid (R2.out.low (belowA w2 (.cells #[.string k, .string p, .string v, .string f] 27)))
    have B3 := hid (B2.out.alloc B2.out.size (.cells #[.string k, .string p, .string v, .string f] 27))
    have hz : w2.heap.size < (w2.alloc (.cells #[.string k, .string p, .string v, .string f] 27)).heap.size := by simp
    clear R2 B2
    refine (HT.out _).mono ?_
    rintro e w3 ⟨rfl, hb⟩
    obtain ⟨r0, r1, r2, r3, r4, r5, r6, r7, r8⟩ := R3.out.low hb
    obtain ⟨d0, d1, d2, d3⟩ := four_low D.out hb hz
    have B4 := hid (B3.out.trans (hb.mono B3.out.size))
    clear hb R3 B3 D
    go_wp2_with fail
    (try simp only [Exit.inBlock, Exit.then])
    refine bodyPost_ret (v := .tuple #[ov none4, .int .i64 er]) ?_ rfl ⟨rfl, below_set4 B4.out _ _ _ _ _ (Nat.le_refl _)⟩
    rw [results_cell_tmp rfl]
    go_simp
    rfl
theorem ptol_any (s : ByteArray) (w : World) (hs : s.size ≤ maxLen) : Calls Tryz.prog 20 #[.string s] w fun e w' => e = .returned (.tuple #[ov (pO s).1, .int .i64 (pO s).2]) ∧ Below w.heap.size w w' := by
  unfold pO
  by_cases g : 256 < s.size
  · rw [if_pos (by rw [decide_eq_true g]; rfl)]
    exact po_long s w hs g
  · rw [decide_eq_false g, Bool.false_or]
    by_cases h1 : ((oCut s).2.2 && emB (oCut s).2.1) = true
    · rw [h1, if_pos (by rfl)]
      rw [Bool.and_eq_true] at h1
      exact po_eff s w hs (by omega) h1.1 h1.2
    · have h1' : (oCut s).2.2 = false ∨ ((oCut s).2.2 = true ∧ emB (oCut s).2.1 = false) := by
        cases a : (oCut s).2.2
        · exact Or.inl rfl
        · rw [a, Bool.true_and] at h1
          exact Or.inr ⟨rfl, Bool.eq_false_iff.2 h1⟩
      rw [Bool.eq_false_iff.2 h1, Bool.false_or]
      by_cases h3 : emB (oCut s).1 = true
      · rw [if_pos h3]
        exact po_rest s w hs (by omega) h1' h3
      · rw [if_neg h3]
        have h3' := Bool.eq_false_iff.2 h3
        by_cases hE : oE (withE (rRest (oCut s).1) (oCut s).2.1) = 0
        · rw [if_pos hE]
          exact po_ok s w hs (by omega) h1' h3' hE
        · rw [if_neg hE]
          exact po_bad s w hs (by omega) h1' h3' hE
end Go.Proofs.YtppblibcbjpfnaaGreatDoor.L
