import Derived.Test.YtppblibcbjpfnaaGreatDoorQl4
import Derived.Test.YtppblibcbjpfnaaGreatDoorQl5
import Derived.Test.YtppblibcbjpfnaaGreatDoorQl6
import Derived.Test.YtppblibcbjpfnaaGreatDoorQpo
import Derived.Test.YtppblibcbjpfnaaGreatDoorCpy
import Derived.Deep.RegionHeld3
namespace Go.Proofs.YtppblibcbjpfnaaGreatDoor.L
open Go.RowKit
set_option linter.unusedVariables false
set_option linter.unusedSimpArgs false
theorem cells_at (w : World) (cs : Array Value) (t : TypeId) : ∀ (i : Nat) (v : Value), cs[i]? = some v → (w.alloc (.cells cs t)).cell? ⟨w.heap.size, i, none⟩ = some v := by
  intro i v hv
  have h : (w.alloc (.cells cs t)).heap[w.heap.size]? = some (.cells cs t) := by
    show (w.heap.push _)[w.heap.size]? = _
    simp
  unfold World.cell?
  rw [h]
  simpa using hv
theorem box_low {b : Nat} {cs : Array Value} {W W' : World} (h : ∀ (i : Nat) (v : Value), cs[i]? = some v → W.cell? ⟨b, i, none⟩ = some v) (hb : Below W.heap.size W W') (hz : b < W.heap.size) : ∀ (i : Nat) (v : Value), cs[i]? = some v → W'.cell? ⟨b, i, none⟩ = some v :=
  fun i v hv => (hb.cell (p := ⟨b, i, none⟩) hz).trans (h i v hv)
theorem w_bel {w W0 w1 : World} (B0 : Below w.heap.size w W0) (hb : Below W0.heap.size W0 w1) : Below w.heap.size w w1 := B0.trans (hb.mono B0.size)
theorem tE_range (t : Tn) : 0 ≤ tE t ∧ tE t ≤ 1000 := by
  rcases tE_cases t with h | h | h | h <;> rw [h] <;> decide
theorem pT_range (s : ByteArray) : 0 ≤ (pT s).2 ∧ (pT s).2 ≤ 1000 := by
  unfold pT
  split
  · decide
  · dsimp only
    split
    · decide
    · split
      · exact (by decide : (0 : Int) ≤ 0 ∧ (0 : Int) ≤ 1000)
      · exact tE_range _
theorem pO_range (s : ByteArray) : 0 ≤ (pO s).2 ∧ (pO s).2 ≤ 1000 := by
  unfold pO
  split
  · decide
  · split
    · exact (by decide : (0 : Int) ≤ 0 ∧ (0 : Int) ≤ 1000)
    · exact oE_range _
theorem mk_range {l : List Tn} {a e : Int} (h : MkR l a e) : 0 ≤ e ∧ e ≤ 1000 := by
  rcases h with ⟨_, h⟩ | ⟨_, rfl, _⟩ | ⟨rfl, _⟩
  · exact ce_range h
  · decide
  · decide
theorem items_nil (W : World) : ItemsG 3 tf W (.slice none 0 0) ([] : List Tn) := ⟨none, 0, rfl, Or.inl rfl⟩
set_option maxHeartbeats 4000000 in
set_option maxRecDepth 100000 in
theorem one_effect (t0 t1 t2 o0 o1 o2 o3 s ky : ByteArray) (vL vO : Value) (w : World) :
    Calls Tryz.prog 5 #[.agg #[.int .i64 1, .string t0, .string t1, .string t2, .string o0, .string o1, .string o2, .string o3, .string s, .string ky, vL, vO]] w fun e w' => e = .returned (.bool true) ∧ Below w.heap.size w w' := by
  have F1 := hid (fun W => effect_any s W)
  have F2 := hid (fun W => qeffect_any s W)
  generalize effB s = r at *
  go_enter Tryz.func5, Tryz.ntmps5
  go_wp2_with fail
  have B0 := hid (show Below w.heap.size w (w.alloc (.cells #[.int .i64 1, .string t0, .string t1, .string t2, .string o0, .string o1, .string o2, .string o3, .string s, .string ky, vL, vO] 31)) from belowA _ _)
  have Z0 := hid (show w.heap.size < (w.alloc (.cells #[.int .i64 1, .string t0, .string t1, .string t2, .string o0, .string o1, .string o2, .string o3, .string s, .string ky, vL, vO] 31)).heap.size by simp)
  have E0 := hid (cells_at w #[.int .i64 1, .string t0, .string t1, .string t2, .string o0, .string o1, .string o2, .string o3, .string s, .string ky, vL, vO] 31)
  generalize w.alloc (.cells #[.int .i64 1, .string t0, .string t1, .string t2, .string o0, .string o1, .string o2, .string o3, .string s, .string ky, vL, vO] 31) = w0 at *
  have T0 : w0.drew.cell? ⟨w.heap.size, 8, none⟩ = some (.string s) := E0.out 8 _ rfl
  go_region_held3 (fun W => W.cell? ⟨w.heap.size, 8, none⟩ = some (.string s))
    (first | exact T0 | exact T1 | exact T2 | exact T3 | exact T4 | exact T5 | exact T6)
    (first
      | (go_at_call 10; refine (F1.out _).mono ?_; rintro e wq ⟨rfl, hwq⟩; subst hwq)
      | (go_at_call 11; refine (F2.out _).mono ?_; rintro e wq ⟨rfl, hwq⟩; subst hwq))
  go_wp2_with fail
  go_ret
  exact ⟨ret_bool (by simp), B0.out.drew⟩
set_option maxHeartbeats 4000000 in
set_option maxRecDepth 100000 in
theorem one_taint (t0 t1 t2 o0 o1 o2 o3 s ky : ByteArray) (vL vO : Value) (w : World) (hk : t0.size ≤ maxLen) (hv : t1.size ≤ maxLen) :
    Calls Tryz.prog 5 #[.agg #[.int .i64 2, .string t0, .string t1, .string t2, .string o0, .string o1, .string o2, .string o3, .string s, .string ky, vL, vO]] w fun e w' => e = .returned (.bool true) ∧ Below w.heap.size w w' := by
  have F1 := hid (fun W => ctaint_any (t0, t1, t2) W hk hv)
  have F2 := hid (fun W => qctaint_any (t0, t1, t2) W hk hv)
  have F3 := hid (fun W => num_any (tE (t0, t1, t2)) W (tE_range _))
  generalize tE (t0, t1, t2) = r at *
  simp only [tv, ov] at F1 F2
  go_enter Tryz.func5, Tryz.ntmps5
  go_wp2_with fail
  have B0 := hid (show Below w.heap.size w (w.alloc (.cells #[.int .i64 2, .string t0, .string t1, .string t2, .string o0, .string o1, .string o2, .string o3, .string s, .string ky, vL, vO] 31)) from belowA _ _)
  have Z0 := hid (show w.heap.size < (w.alloc (.cells #[.int .i64 2, .string t0, .string t1, .string t2, .string o0, .string o1, .string o2, .string o3, .string s, .string ky, vL, vO] 31)).heap.size by simp)
  have E0 := hid (cells_at w #[.int .i64 2, .string t0, .string t1, .string t2, .string o0, .string o1, .string o2, .string o3, .string s, .string ky, vL, vO] 31)
  generalize w.alloc (.cells #[.int .i64 2, .string t0, .string t1, .string t2, .string o0, .string o1, .string o2, .string o3, .string s, .string ky, vL, vO] 31) = w0 at *
  have T0 : w0.drew.cell? ⟨w.heap.size, 1, none⟩ = some (.string t0) ∧ w0.drew.cell? ⟨w.heap.size, 2, none⟩ = some (.string t1) ∧ w0.drew.cell? ⟨w.heap.size, 3, none⟩ = some (.string t2) := ⟨E0.out 1 _ rfl, E0.out 2 _ rfl, E0.out 3 _ rfl⟩
  go_region_held3 (fun W => W.cell? ⟨w.heap.size, 1, none⟩ = some (.string t0) ∧ W.cell? ⟨w.heap.size, 2, none⟩ = some (.string t1) ∧ W.cell? ⟨w.heap.size, 3, none⟩ = some (.string t2))
    (first | exact T0 | exact T1 | exact T2 | exact T3 | exact T4 | exact T5 | exact T6)
    (first
      | (go_at_call 12; refine (F1.out _).mono ?_; rintro e w1 ⟨rfl, hb1⟩; have D1 := hid hb1; clear hb1; have T1 : w1.cell? ⟨w.heap.size, 1, none⟩ = some (.string t0) ∧ w1.cell? ⟨w.heap.size, 2, none⟩ = some (.string t1) ∧ w1.cell? ⟨w.heap.size, 3, none⟩ = some (.string t2) := ⟨(D1.out.cell (p := ⟨w.heap.size, 1, none⟩) Z0.out).trans T0.1, (D1.out.cell (p := ⟨w.heap.size, 2, none⟩) Z0.out).trans T0.2.1, (D1.out.cell (p := ⟨w.heap.size, 3, none⟩) Z0.out).trans T0.2.2⟩; have Z1 := hid (Nat.lt_of_lt_of_le Z0.out D1.out.size); have B1 := hid (w_bel B0.out.drew D1.out))
      | (go_at_call 9; refine (F3.out _).mono ?_; rintro e wq ⟨rfl, hwq⟩; subst hwq)
      | (go_at_call 13; refine (F2.out _).mono ?_; rintro e w2 ⟨rfl, hb2⟩; have D2 := hid hb2; clear hb2; have T2 : w2.cell? ⟨w.heap.size, 1, none⟩ = some (.string t0) ∧ w2.cell? ⟨w.heap.size, 2, none⟩ = some (.string t1) ∧ w2.cell? ⟨w.heap.size, 3, none⟩ = some (.string t2) := ⟨(D2.out.cell (p := ⟨w.heap.size, 1, none⟩) Z1.out).trans T1.1, (D2.out.cell (p := ⟨w.heap.size, 2, none⟩) Z1.out).trans T1.2.1, (D2.out.cell (p := ⟨w.heap.size, 3, none⟩) Z1.out).trans T1.2.2⟩; have Z2 := hid (Nat.lt_of_lt_of_le Z1.out D2.out.size); have B2 := hid (w_bel B1.out D2.out)))
  go_wp2_with fail
  go_ret
  exact ⟨ret_bool (by simp), B2.out⟩
set_option maxHeartbeats 4000000 in
set_option maxRecDepth 100000 in
theorem one_tol (t0 t1 t2 o0 o1 o2 o3 s ky : ByteArray) (vL vO : Value) (w : World) (hk : o0.size ≤ maxLen) (hv : o2.size ≤ maxLen) :
    Calls Tryz.prog 5 #[.agg #[.int .i64 3, .string t0, .string t1, .string t2, .string o0, .string o1, .string o2, .string o3, .string s, .string ky, vL, vO]] w fun e w' => e = .returned (.bool true) ∧ Below w.heap.size w w' := by
  have F1 := hid (fun W => ctol_any (o0, o1, o2, o3) W hk hv)
  have F2 := hid (fun W => qctol_any (o0, o1, o2, o3) W hk hv)
  have F3 := hid (fun W => num_any (oE (o0, o1, o2, o3)) W (oE_range _))
  generalize oE (o0, o1, o2, o3) = r at *
  simp only [tv, ov] at F1 F2
  go_enter Tryz.func5, Tryz.ntmps5
  go_wp2_with fail
  have B0 := hid (show Below w.heap.size w (w.alloc (.cells #[.int .i64 3, .string t0, .string t1, .string t2, .string o0, .string o1, .string o2, .string o3, .string s, .string ky, vL, vO] 31)) from belowA _ _)
  have Z0 := hid (show w.heap.size < (w.alloc (.cells #[.int .i64 3, .string t0, .string t1, .string t2, .string o0, .string o1, .string o2, .string o3, .string s, .string ky, vL, vO] 31)).heap.size by simp)
  have E0 := hid (cells_at w #[.int .i64 3, .string t0, .string t1, .string t2, .string o0, .string o1, .string o2, .string o3, .string s, .string ky, vL, vO] 31)
  generalize w.alloc (.cells #[.int .i64 3, .string t0, .string t1, .string t2, .string o0, .string o1, .string o2, .string o3, .string s, .string ky, vL, vO] 31) = w0 at *
  have T0 : w0.drew.cell? ⟨w.heap.size, 4, none⟩ = some (.string o0) ∧ w0.drew.cell? ⟨w.heap.size, 5, none⟩ = some (.string o1) ∧ w0.drew.cell? ⟨w.heap.size, 6, none⟩ = some (.string o2) ∧ w0.drew.cell? ⟨w.heap.size, 7, none⟩ = some (.string o3) := ⟨E0.out 4 _ rfl, E0.out 5 _ rfl, E0.out 6 _ rfl, E0.out 7 _ rfl⟩
  go_region_held3 (fun W => W.cell? ⟨w.heap.size, 4, none⟩ = some (.string o0) ∧ W.cell? ⟨w.heap.size, 5, none⟩ = some (.string o1) ∧ W.cell? ⟨w.heap.size, 6, none⟩ = some (.string o2) ∧ W.cell? ⟨w.heap.size, 7, none⟩ = some (.string o3))
    (first | exact T0 | exact T1 | exact T2 | exact T3 | exact T4 | exact T5 | exact T6)
    (first
      | (go_at_call 14; refine (F1.out _).mono ?_; rintro e w1 ⟨rfl, hb1⟩; have D1 := hid hb1; clear hb1; have T1 : w1.cell? ⟨w.heap.size, 4, none⟩ = some (.string o0) ∧ w1.cell? ⟨w.heap.size, 5, none⟩ = some (.string o1) ∧ w1.cell? ⟨w.heap.size, 6, none⟩ = some (.string o2) ∧ w1.cell? ⟨w.heap.size, 7, none⟩ = some (.string o3) := ⟨(D1.out.cell (p := ⟨w.heap.size, 4, none⟩) Z0.out).trans T0.1, (D1.out.cell (p := ⟨w.heap.size, 5, none⟩) Z0.out).trans T0.2.1, (D1.out.cell (p := ⟨w.heap.size, 6, none⟩) Z0.out).trans T0.2.2.1, (D1.out.cell (p := ⟨w.heap.size, 7, none⟩) Z0.out).trans T0.2.2.2⟩; have Z1 := hid (Nat.lt_of_lt_of_le Z0.out D1.out.size); have B1 := hid (w_bel B0.out.drew D1.out))
      | (go_at_call 9; refine (F3.out _).mono ?_; rintro e wq ⟨rfl, hwq⟩; subst hwq)
      | (go_at_call 15; refine (F2.out _).mono ?_; rintro e w2 ⟨rfl, hb2⟩; have D2 := hid hb2; clear hb2; have T2 : w2.cell? ⟨w.heap.size, 4, none⟩ = some (.string o0) ∧ w2.cell? ⟨w.heap.size, 5, none⟩ = some (.string o1) ∧ w2.cell? ⟨w.heap.size, 6, none⟩ = some (.string o2) ∧ w2.cell? ⟨w.heap.size, 7, none⟩ = some (.string o3) := ⟨(D2.out.cell (p := ⟨w.heap.size, 4, none⟩) Z1.out).trans T1.1, (D2.out.cell (p := ⟨w.heap.size, 5, none⟩) Z1.out).trans T1.2.1, (D2.out.cell (p := ⟨w.heap.size, 6, none⟩) Z1.out).trans T1.2.2.1, (D2.out.cell (p := ⟨w.heap.size, 7, none⟩) Z1.out).trans T1.2.2.2⟩; have Z2 := hid (Nat.lt_of_lt_of_le Z1.out D2.out.size); have B2 := hid (w_bel B1.out D2.out)))
  go_wp2_with fail
  go_ret
  exact ⟨ret_bool (by simp), B2.out⟩
end Go.Proofs.YtppblibcbjpfnaaGreatDoor.L
