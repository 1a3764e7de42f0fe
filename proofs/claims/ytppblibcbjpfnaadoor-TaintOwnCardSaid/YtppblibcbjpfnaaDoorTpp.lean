import Derived.Test.YtppblibcbjpfnaaDoorTps
import Derived.Sort.Row
namespace Go.Proofs.YtppblibcbjpfnaaDoor.L
open Go.RowKit
set_option linter.unusedVariables false
/-- The taint that a text without its effect writes. -/
def pRest (r f : ByteArray) : Tn := if idx r 61 = -1 then (r, ByteArray.empty, f) else (r.extract 0 (idx r 61).toNat, r.extract ((idx r 61).toNat + 1) r.size, f)
def pBad (r : ByteArray) : Bool := !decide (idx r 61 = -1) && emB (r.extract ((idx r 61).toNat + 1) r.size)
def none3 : Tn := (ByteArray.empty, ByteArray.empty, ByteArray.empty)
def pT (s : ByteArray) : Tn × Int :=
  if 256 < s.size ∨ lst s 58 = -1 then (none3, 43) else
  let r := s.extract 0 (lst s 58).toNat
  let f := s.extract ((lst s 58).toNat + 1) s.size
  if pBad r = true then (none3, 43) else if tE (pRest r f) = 0 then (pRest r f, 0) else (none3, tE (pRest r f))
theorem below_set {B : Nat} {a w : World} (h : Below B a w) (b o : Nat) (v : Value) (hb : B ≤ b) : Below B a (w.setCell ⟨b, o, none⟩ v) := by
  rw [Go.Sort.setCell_eq]
  refine ⟨h.os, h.tape, h.output, ?_, fun k hk => ?_⟩
  · show a.heap.size ≤ (w.heap.modify b _).size
    simpa using h.size
  · show (w.heap.modify b _)[k]? = _
    rw [Array.getElem?_modify, if_neg (by omega)]
    exact h.block k hk
theorem below_set3 {B : Nat} {a w : World} (h : Below B a w) (b : Nat) (x y z : Value) (hb : B ≤ b) : Below B a (((w.setCell ⟨b, 0, none⟩ x).setCell ⟨b, 1, none⟩ y).setCell ⟨b, 2, none⟩ z) := below_set (below_set (below_set h b 0 x hb) b 1 y hb) b 2 z hb
/-- Two boxes of three, one behind the other. -/
structure Box3 (W : World) (b : Nat) (x y z k v f : Value) : Prop where
  c0 : W.cell? ⟨b, 0, none⟩ = some x
  c1 : W.cell? ⟨b, 1, none⟩ = some y
  c2 : W.cell? ⟨b, 2, none⟩ = some z
  d0 : W.cell? ⟨b + 1, 0, none⟩ = some k
  d1 : W.cell? ⟨b + 1, 1, none⟩ = some v
  d2 : W.cell? ⟨b + 1, 2, none⟩ = some f
  f0 : W.frozen? ⟨b, 0, none⟩ = false
  f1 : W.frozen? ⟨b, 1, none⟩ = false
  f2 : W.frozen? ⟨b, 2, none⟩ = false
theorem three_box (w : World) (n : Nat) (x y z k v f : Value) (t t' : TypeId) : Box3 (((w.alloc (.cells #[x, y, z] t)).drewN n).alloc (.cells #[k, v, f] t')) w.heap.size x y z k v f := by
  have h1 : (((w.alloc (.cells #[x, y, z] t)).drewN n).alloc (.cells #[k, v, f] t')).heap[w.heap.size + 1]? = some (.cells #[k, v, f] t') := by
    show ((w.heap.push _).push _)[w.heap.size + 1]? = _
    rw [Array.getElem?_push, if_pos (by simp)]
  have h2 : (((w.alloc (.cells #[x, y, z] t)).drewN n).alloc (.cells #[k, v, f] t')).heap[w.heap.size]? = some (.cells #[x, y, z] t) := by
    show ((w.heap.push _).push _)[w.heap.size]? = _
    rw [Array.getElem?_push, if_neg (by simp)]
    simp
  refine ⟨?_, ?_, ?_, ?_, ?_, ?_, ?_, ?_, ?_⟩
  · unfold World.cell?; rw [h2]; rfl
  · unfold World.cell?; rw [h2]; rfl
  · unfold World.cell?; rw [h2]; rfl
  · unfold World.cell?; rw [h1]; rfl
  · unfold World.cell?; rw [h1]; rfl
  · unfold World.cell?; rw [h1]; rfl
  · unfold World.frozen?; rw [h2]; rfl
  · unfold World.frozen?; rw [h2]; rfl
  · unfold World.frozen?; rw [h2]; rfl
theorem Box3.low {W W' : World} {b : Nat} {x y z k v f : Value} (h : Box3 W b x y z k v f) (hb : Below W.heap.size W W') (hz : b + 1 < W.heap.size) : Box3 W' b x y z k v f := by
  have hz' : b < W.heap.size := Nat.lt_of_succ_lt hz
  obtain ⟨a0, a1, a2, a3, a4, a5, a6, a7, a8⟩ := h
  refine ⟨?_, ?_, ?_, ?_, ?_, ?_, ?_, ?_, ?_⟩
  · exact (hb.cell (p := ⟨b, 0, none⟩) hz').trans a0
  · exact (hb.cell (p := ⟨b, 1, none⟩) hz').trans a1
  · exact (hb.cell (p := ⟨b, 2, none⟩) hz').trans a2
  · exact (hb.cell (p := ⟨b + 1, 0, none⟩) hz).trans a3
  · exact (hb.cell (p := ⟨b + 1, 1, none⟩) hz).trans a4
  · exact (hb.cell (p := ⟨b + 1, 2, none⟩) hz).trans a5
  · unfold World.frozen? at *; rw [hb.block b hz']; exact a6
  · unfold World.frozen? at *; rw [hb.block b hz']; exact a7
  · unfold World.frozen? at *; rw [hb.block b hz']; exact a8
set_option maxHeartbeats 4000000 in
theorem parse_no (s : ByteArray) (w : World) (hs : s.size ≤ maxLen) (h : lst s 58 = -1) : Calls Tryd.prog 11 #[.string s] w fun e w' => e = .returned (.tuple #[tv none3, .int .i64 43]) ∧ Below w.heap.size w w' := by
  have HC := hid (fun W => cutl_no s W hs h)
  unfold maxLen at hs
  clear h
  by_cases g : 256 < s.size
  · have g' : (256 : Int) < (s.size : Int) := by omega
    go_enter Tryd.func11, Tryd.ntmps11
    go_wp2_with fail
    refine (HC.out _).mono ?_
    rintro e w1 ⟨rfl, hww⟩; subst hww
    go_wp2_with fail
    (try simp only [Exit.inBlock, Exit.then])
    refine bodyPost_ret (v := .tuple #[tv none3, .int .i64 43]) ?_ rfl ⟨rfl, belowA _ _⟩
    rw [results_cell_tmp rfl]
    go_simp
    rfl
  · have g' : ¬ (256 : Int) < (s.size : Int) := by omega
    go_enter Tryd.func11, Tryd.ntmps11
    go_wp2_with fail
    refine (HC.out _).mono ?_
    rintro e w1 ⟨rfl, hww⟩; subst hww
    go_wp2_with fail
    (try simp only [Exit.inBlock, Exit.then])
    refine bodyPost_ret (v := .tuple #[tv none3, .int .i64 43]) ?_ rfl ⟨rfl, belowA _ _⟩
    rw [results_cell_tmp rfl]
    go_simp
    rfl
set_option maxHeartbeats 4000000 in
theorem parse_long (s : ByteArray) (w : World) (i : Nat) (hs : s.size ≤ maxLen) (h : lst s 58 = i) (hi : i < s.size) (g : 256 < s.size) : Calls Tryd.prog 11 #[.string s] w fun e w' => e = .returned (.tuple #[tv none3, .int .i64 43]) ∧ Below w.heap.size w w' := by
  have HC := hid (fun W => cutl_yes s i W hs h hi)
  unfold maxLen at hs
  clear h
  have g' : (256 : Int) < (s.size : Int) := by omega
  go_enter Tryd.func11, Tryd.ntmps11
  go_wp2_with fail
  refine (HC.out _).mono ?_
  rintro e w1 ⟨rfl, n, hww⟩; subst hww
  go_wp2_with fail
  (try simp only [Exit.inBlock, Exit.then])
  refine bodyPost_ret (v := .tuple #[tv none3, .int .i64 43]) ?_ rfl ⟨rfl, below_set3 (below_drewN (belowA _ _) n) _ _ _ _ (Nat.le_refl _)⟩
  rw [results_cell_tmp rfl]
  go_simp
  rfl
set_option maxHeartbeats 4000000 in
theorem parse_hole (s : ByteArray) (w : World) (i j : Nat) (h : lst s 58 = i) (hi : i < s.size) (g : s.size ≤ 256) (h2 : idx (s.extract 0 i) 61 = j) (hj : j < (s.extract 0 i).size) (hv : emB ((s.extract 0 i).extract (j + 1) (s.extract 0 i).size) = true) : Calls Tryd.prog 11 #[.string s] w fun e w' => e = .returned (.tuple #[tv none3, .int .i64 43]) ∧ Below w.heap.size w w' := by
  have HC := hid (fun W => cutl_yes s i W (by unfold maxLen; omega) h hi)
  have hz : (s.extract 0 i).size ≤ 256 := by rw [ByteArray.size_extract]; omega
  have HD := hid (fun W => cut_yes (s.extract 0 i) 61 j W (by unfold maxLen; omega) h2 hj)
  clear h h2
  have g' : ¬ (256 : Int) < (s.size : Int) := by omega
  have hv' : ((s.extract 0 i).extract (j + 1) (s.extract 0 i).size).toList.isEmpty = true := hv
  clear hv
  generalize s.extract 0 i = r at *
  generalize s.extract (i + 1) s.size = f at *
  generalize r.extract 0 j = k at *
  generalize r.extract (j + 1) r.size = v at *
  go_enter Tryd.func11, Tryd.ntmps11
  go_wp2_with fail
  refine (HC.out _).mono ?_
  rintro e w1 ⟨rfl, n, hww⟩; subst hww
  go_wp2_with fail
  refine (HD.out _).mono ?_
  rintro e w1 ⟨rfl, n', hww⟩; subst hww
  go_wp2_with fail
  (try simp only [Exit.inBlock, Exit.then])
  refine bodyPost_ret (v := .tuple #[tv none3, .int .i64 43]) ?_ rfl ⟨rfl, below_set3 (below_drewN (belowA _ _) (n + n')) _ _ _ _ (Nat.le_refl _)⟩
  rw [results_cell_tmp rfl]
  go_simp
  rfl
set_option maxHeartbeats 4000000 in
theorem parse_plain_ok (s : ByteArray) (w : World) (i : Nat) (h : lst s 58 = i) (hi : i < s.size) (g : s.size ≤ 256) (h2 : idx (s.extract 0 i) 61 = -1) (hE : tE (s.extract 0 i, ByteArray.empty, s.extract (i + 1) s.size) = 0) : Calls Tryd.prog 11 #[.string s] w fun e w' => e = .returned (.tuple #[tv (s.extract 0 i, ByteArray.empty, s.extract (i + 1) s.size), .int .i64 0]) ∧ Below w.heap.size w w' := by
  have HC := hid (fun W => cutl_yes s i W (by unfold maxLen; omega) h hi)
  have hz : (s.extract 0 i).size ≤ 256 := by rw [ByteArray.size_extract]; omega
  have HD := hid (fun W => cut_no (s.extract 0 i) 61 W h2)
  have HT := hid (fun W => ctaint_any (s.extract 0 i, ByteArray.empty, s.extract (i + 1) s.size) W (show (s.extract 0 i).size ≤ maxLen by unfold maxLen; omega) (show ByteArray.empty.size ≤ maxLen by unfold maxLen; decide))
  have g' : ¬ (256 : Int) < (s.size : Int) := by omega
  clear h h2
  generalize s.extract 0 i = r at *
  generalize s.extract (i + 1) s.size = f at *
  rw [hE] at HT
  clear hE
  simp only [tv] at *
  go_enter Tryd.func11, Tryd.ntmps11
  go_wp2_with fail
  refine (HC.out _).mono ?_
  rintro e w1 ⟨rfl, n, hww⟩; subst hww
  go_wp2_with fail
  refine (HD.out _).mono ?_
  rintro e w1 ⟨rfl, hww⟩; subst hww
  go_wp2_with fail
  refine (HT.out _).mono ?_
  rintro e w2 ⟨rfl, hb⟩
  have BX := (three_box w n (.string ⟨#[]⟩) (.string ⟨#[]⟩) (.string ⟨#[]⟩) (.string r) (.string ByteArray.empty) (.string f) 23 23).low hb (by simp)
  have HB := hid (((below_drewN (belowA w (.cells #[.string ⟨#[]⟩, .string ⟨#[]⟩, .string ⟨#[]⟩] 23)) n).alloc (by simp) (.cells #[.string r, .string ByteArray.empty, .string f] 23)).trans (hb.mono (by simp; omega)))
  obtain ⟨c0, c1, c2, d0, d1, d2, f0, f1, f2⟩ := BX
  clear hb
  go_wp2_with fail
  (try simp only [Exit.inBlock, Exit.then])
  refine bodyPost_ret (v := .tuple #[.agg #[.string r, .string ByteArray.empty, .string f], .int .i64 0]) ?_ rfl ⟨rfl, below_set3 HB.out _ _ _ _ (Nat.le_refl _)⟩
  rw [results_cell_tmp rfl]
  go_simp
set_option maxHeartbeats 4000000 in
theorem parse_plain_bad (s : ByteArray) (w : World) (i : Nat) (h : lst s 58 = i) (hi : i < s.size) (g : s.size ≤ 256) (h2 : idx (s.extract 0 i) 61 = -1) (hE : tE (s.extract 0 i, ByteArray.empty, s.extract (i + 1) s.size) ≠ 0) : Calls Tryd.prog 11 #[.string s] w fun e w' => e = .returned (.tuple #[tv none3, .int .i64 (tE (s.extract 0 i, ByteArray.empty, s.extract (i + 1) s.size))]) ∧ Below w.heap.size w w' := by
  have HC := hid (fun W => cutl_yes s i W (by unfold maxLen; omega) h hi)
  have hz : (s.extract 0 i).size ≤ 256 := by rw [ByteArray.size_extract]; omega
  have HD := hid (fun W => cut_no (s.extract 0 i) 61 W h2)
  have HT := hid (fun W => ctaint_any (s.extract 0 i, ByteArray.empty, s.extract (i + 1) s.size) W (show (s.extract 0 i).size ≤ maxLen by unfold maxLen; omega) (show ByteArray.empty.size ≤ maxLen by unfold maxLen; decide))
  have g' : ¬ (256 : Int) < (s.size : Int) := by omega
  clear h h2
  generalize s.extract 0 i = r at *
  generalize s.extract (i + 1) s.size = f at *
  generalize tE (r, ByteArray.empty, f) = er at *
  have hE' : (er != 0) = true := by simpa using hE
  clear hE
  simp only [tv, none3] at *
  go_enter Tryd.func11, Tryd.ntmps11
  go_wp2_with fail
  refine (HC.out _).mono ?_
  rintro e w1 ⟨rfl, n, hww⟩; subst hww
  go_wp2_with fail
  refine (HD.out _).mono ?_
  rintro e w1 ⟨rfl, hww⟩; subst hww
  go_wp2_with fail
  refine (HT.out _).mono ?_
  rintro e w2 ⟨rfl, hb⟩
  have BX := (three_box w n (.string ⟨#[]⟩) (.string ⟨#[]⟩) (.string ⟨#[]⟩) (.string r) (.string ByteArray.empty) (.string f) 23 23).low hb (by simp)
  have HB := hid (((below_drewN (belowA w (.cells #[.string ⟨#[]⟩, .string ⟨#[]⟩, .string ⟨#[]⟩] 23)) n).alloc (by simp) (.cells #[.string r, .string ByteArray.empty, .string f] 23)).trans (hb.mono (by simp; omega)))
  obtain ⟨c0, c1, c2, d0, d1, d2, f0, f1, f2⟩ := BX
  clear hb
  go_wp2_with fail
  (try simp only [Exit.inBlock, Exit.then])
  refine bodyPost_ret (v := .tuple #[.agg #[.string ByteArray.empty, .string ByteArray.empty, .string ByteArray.empty], .int .i64 er]) ?_ rfl ⟨rfl, below_set3 HB.out _ _ _ _ (Nat.le_refl _)⟩
  rw [results_cell_tmp rfl]
  go_simp
  try rfl
set_option maxHeartbeats 4000000 in
theorem parse_sign_ok (s : ByteArray) (w : World) (i j : Nat) (h : lst s 58 = i) (hi : i < s.size) (g : s.size ≤ 256) (h2 : idx (s.extract 0 i) 61 = j) (hj : j < (s.extract 0 i).size) (hv : emB ((s.extract 0 i).extract (j + 1) (s.extract 0 i).size) = false) (hE : tE ((s.extract 0 i).extract 0 j, (s.extract 0 i).extract (j + 1) (s.extract 0 i).size, s.extract (i + 1) s.size) = 0) : Calls Tryd.prog 11 #[.string s] w fun e w' => e = .returned (.tuple #[tv ((s.extract 0 i).extract 0 j, (s.extract 0 i).extract (j + 1) (s.extract 0 i).size, s.extract (i + 1) s.size), .int .i64 0]) ∧ Below w.heap.size w w' := by
  have HC := hid (fun W => cutl_yes s i W (by unfold maxLen; omega) h hi)
  have hz : (s.extract 0 i).size ≤ 256 := by rw [ByteArray.size_extract]; omega
  have HD := hid (fun W => cut_yes (s.extract 0 i) 61 j W (by unfold maxLen; omega) h2 hj)
  have HT := hid (fun W => ctaint_any ((s.extract 0 i).extract 0 j, (s.extract 0 i).extract (j + 1) (s.extract 0 i).size, s.extract (i + 1) s.size) W (show ((s.extract 0 i).extract 0 j).size ≤ maxLen by rw [ByteArray.size_extract]; unfold maxLen; omega) (show ((s.extract 0 i).extract (j + 1) (s.extract 0 i).size).size ≤ maxLen by rw [ByteArray.size_extract]; unfold maxLen; omega))
  have g' : ¬ (256 : Int) < (s.size : Int) := by omega
  have hv' : ((s.extract 0 i).extract (j + 1) (s.extract 0 i).size).toList.isEmpty = false := hv
  clear h h2 hv
  generalize s.extract 0 i = r at *
  generalize s.extract (i + 1) s.size = f at *
  generalize r.extract 0 j = k at *
  generalize r.extract (j + 1) r.size = v at *
  rw [hE] at HT
  clear hE
  simp only [tv] at *
  go_enter Tryd.func11, Tryd.ntmps11
  go_wp2_with fail
  refine (HC.out _).mono ?_
  rintro e w1 ⟨rfl, n, hww⟩; subst hww
  go_wp2_with fail
  refine (HD.out _).mono ?_
  rintro e w1 ⟨rfl, n', hww⟩; subst hww
  go_wp2_with fail
  refine (HT.out _).mono ?_
  rintro e w2 ⟨rfl, hb⟩
  have BX := (three_box w (n + n') (.string ⟨#[]⟩) (.string ⟨#[]⟩) (.string ⟨#[]⟩) (.string k) (.string v) (.string f) 23 23).low hb (by simp)
  have HB := hid (((below_drewN (belowA w (.cells #[.string ⟨#[]⟩, .string ⟨#[]⟩, .string ⟨#[]⟩] 23)) (n + n')).alloc (by simp) (.cells #[.string k, .string v, .string f] 23)).trans (hb.mono (by simp; omega)))
  obtain ⟨c0, c1, c2, d0, d1, d2, f0, f1, f2⟩ := BX
  clear hb
  go_wp2_with fail
  (try simp only [Exit.inBlock, Exit.then])
  refine bodyPost_ret (v := .tuple #[.agg #[.string k, .string v, .string f], .int .i64 0]) ?_ rfl ⟨rfl, below_set3 HB.out _ _ _ _ (Nat.le_refl _)⟩
  rw [results_cell_tmp rfl]
  go_simp
set_option maxHeartbeats 4000000 in
theorem parse_sign_bad (s : ByteArray) (w : World) (i j : Nat) (h : lst s 58 = i) (hi : i < s.size) (g : s.size ≤ 256) (h2 : idx (s.extract 0 i) 61 = j) (hj : j < (s.extract 0 i).size) (hv : emB ((s.extract 0 i).extract (j + 1) (s.extract 0 i).size) = false) (hE : tE ((s.extract 0 i).extract 0 j, (s.extract 0 i).extract (j + 1) (s.extract 0 i).size, s.extract (i + 1) s.size) ≠ 0) : Calls Tryd.prog 11 #[.string s] w fun e w' => e = .returned (.tuple #[tv none3, .int .i64 (tE ((s.extract 0 i).extract 0 j, (s.extract 0 i).extract (j + 1) (s.extract 0 i).size, s.extract (i + 1) s.size))]) ∧ Below w.heap.size w w' := by
  have HC := hid (fun W => cutl_yes s i W (by unfold maxLen; omega) h hi)
  have hz : (s.extract 0 i).size ≤ 256 := by rw [ByteArray.size_extract]; omega
  have HD := hid (fun W => cut_yes (s.extract 0 i) 61 j W (by unfold maxLen; omega) h2 hj)
  have HT := hid (fun W => ctaint_any ((s.extract 0 i).extract 0 j, (s.extract 0 i).extract (j + 1) (s.extract 0 i).size, s.extract (i + 1) s.size) W (show ((s.extract 0 i).extract 0 j).size ≤ maxLen by rw [ByteArray.size_extract]; unfold maxLen; omega) (show ((s.extract 0 i).extract (j + 1) (s.extract 0 i).size).size ≤ maxLen by rw [ByteArray.size_extract]; unfold maxLen; omega))
  have g' : ¬ (256 : Int) < (s.size : Int) := by omega
  have hv' : ((s.extract 0 i).extract (j + 1) (s.extract 0 i).size).toList.isEmpty = false := hv
  clear h h2 hv
  generalize s.extract 0 i = r at *
  generalize s.extract (i + 1) s.size = f at *
  generalize r.extract 0 j = k at *
  generalize r.extract (j + 1) r.size = v at *
  generalize tE (k, v, f) = er at *
  have hE' : (er != 0) = true := by simpa using hE
  clear hE
  simp only [tv, none3] at *
  go_enter Tryd.func11, Tryd.ntmps11
  go_wp2_with fail
  refine (HC.out _).mono ?_
  rintro e w1 ⟨rfl, n, hww⟩; subst hww
  go_wp2_with fail
  refine (HD.out _).mono ?_
  rintro e w1 ⟨rfl, n', hww⟩; subst hww
  go_wp2_with fail
  refine (HT.out _).mono ?_
  rintro e w2 ⟨rfl, hb⟩
  have BX := (three_box w (n + n') (.string ⟨#[]⟩) (.string ⟨#[]⟩) (.string ⟨#[]⟩) (.string k) (.string v) (.string f) 23 23).low hb (by simp)
  have HB := hid (((below_drewN (belowA w (.cells #[.string ⟨#[]⟩, .string ⟨#[]⟩, .string ⟨#[]⟩] 23)) (n + n')).alloc (by simp) (.cells #[.string k, .string v, .string f] 23)).trans (hb.mono (by simp; omega)))
  obtain ⟨c0, c1, c2, d0, d1, d2, f0, f1, f2⟩ := BX
  clear hb
  go_wp2_with fail
  (try simp only [Exit.inBlock, Exit.then])
  refine bodyPost_ret (v := .tuple #[.agg #[.string ByteArray.empty, .string ByteArray.empty, .string ByteArray.empty], .int .i64 er]) ?_ rfl ⟨rfl, below_set3 HB.out _ _ _ _ (Nat.le_refl _)⟩
  rw [results_cell_tmp rfl]
  go_simp
  try rfl
theorem parse_any (s : ByteArray) (w : World) (hs : s.size ≤ maxLen) : Calls Tryd.prog 11 #[.string s] w fun e w' => e = .returned (.tuple #[tv (pT s).1, .int .i64 (pT s).2]) ∧ Below w.heap.size w w' := by
  unfold pT
  rcases lst_parts (s := s) (c := 58) with ⟨h, _⟩ | ⟨i, h, hi, _⟩
  · rw [if_pos (Or.inr h)]
    exact parse_no s w hs h
  · by_cases g : 256 < s.size
    · rw [if_pos (Or.inl g)]
      exact parse_long s w i hs h hi g
    · rw [if_neg (by rw [h]; omega), h]
      simp only [Int.toNat_natCast]
      rcases idx_cases (s.extract 0 i) 61 with h2 | ⟨j, h2, hj⟩
      · rw [if_neg (by unfold pBad; rw [h2]; simp)]
        have e : pRest (s.extract 0 i) (s.extract (i + 1) s.size) = (s.extract 0 i, ByteArray.empty, s.extract (i + 1) s.size) := by unfold pRest; rw [if_pos h2]
        rw [e]
        by_cases hE : tE (s.extract 0 i, ByteArray.empty, s.extract (i + 1) s.size) = 0
        · rw [if_pos hE]
          exact parse_plain_ok s w i h hi (by omega) h2 hE
        · rw [if_neg hE]
          exact parse_plain_bad s w i h hi (by omega) h2 hE
      · have e : pRest (s.extract 0 i) (s.extract (i + 1) s.size) = ((s.extract 0 i).extract 0 j, (s.extract 0 i).extract (j + 1) (s.extract 0 i).size, s.extract (i + 1) s.size) := by unfold pRest; rw [h2, if_neg (by omega)]; rfl
        have e' : pBad (s.extract 0 i) = emB ((s.extract 0 i).extract (j + 1) (s.extract 0 i).size) := by unfold pBad; rw [h2]; simp
        rw [e, e']
        by_cases hv : emB ((s.extract 0 i).extract (j + 1) (s.extract 0 i).size) = true
        · rw [if_pos hv]
          exact parse_hole s w i j h hi (by omega) h2 hj hv
        · rw [if_neg hv]
          have hv' := Bool.eq_false_iff.2 hv
          by_cases hE : tE ((s.extract 0 i).extract 0 j, (s.extract 0 i).extract (j + 1) (s.extract 0 i).size, s.extract (i + 1) s.size) = 0
          · rw [if_pos hE]
            exact parse_sign_ok s w i j h hi (by omega) h2 hj hv' hE
          · rw [if_neg hE]
            exact parse_sign_bad s w i j h hi (by omega) h2 hj hv' hE
end Go.Proofs.YtppblibcbjpfnaaDoor.L
