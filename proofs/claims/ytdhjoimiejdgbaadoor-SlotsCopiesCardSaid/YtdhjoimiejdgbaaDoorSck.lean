import Derived.Test.YtdhjoimiejdgbaaDoorLwf
namespace Go.Proofs.YtdhjoimiejdgbaaDoor.L
open Go.RowKit Bs Go.Maps
set_option linter.unusedVariables false
theorem nil_size {s : ByteArray} : (s.toList == []) = decide (s.size = 0) := by
  rw [bytes_toList]
  cases s with | mk d =>
  show (d.toList == []) = decide (d.size = 0)
  cases h : d.toList with
  | nil =>
    have : d.size = 0 := by rw [← Array.length_toList, h]; rfl
    simp [this]
  | cons x r =>
    have : d.size ≠ 0 := by rw [← Array.length_toList, h]; simp
    simp [this]
set_option maxHeartbeats 1000000 in
theorem check_nil (s : ByteArray) (w : World) : Calls Tryd.prog 72 #[.pointer none, .string s] w fun e w' => e = .returned (.int .i64 1) ∧ w' = w := by
  go_enter Tryd.func72, Tryd.ntmps72
  go_wp2
  go_ret
  exact ⟨rfl, rfl⟩
/-- No name. -/
def badB (s : ByteArray) : Bool := decide (s.size = 0) || decide (63 < s.size)
set_option maxHeartbeats 1000000 in
theorem check_bad (p : Nat) (s : ByteArray) (w : World) (hs : s.size ≤ maxLen) (h : badB s = true) : Calls Tryd.prog 72 #[.pointer (some ⟨p, 0, none⟩), .string s] w fun e w' => e = .returned (.int .i64 51) ∧ w' = w := by
  unfold badB at h
  unfold maxLen at hs
  by_cases h0 : s.size = 0
  · have e := size_empty h0
    subst e
    clear h h0 hs
    go_enter Tryd.func72, Tryd.ntmps72
    go_wp2
    go_ret
    exact ⟨rfl, rfl⟩
  · have e : (s.toList == []) = false := by rw [nil_size]; simpa using h0
    have h63 : 63 < s.size := by simpa [h0] using h
    clear h
    go_enter Tryd.func72, Tryd.ntmps72
    go_wp2
    go_ret
    exact ⟨rfl, rfl⟩
set_option maxHeartbeats 1000000 in
theorem check_ok (p : Nat) (s : ByteArray) (w : World) (h : badB s = false) : Calls Tryd.prog 72 #[.pointer (some ⟨p, 0, none⟩), .string s] w fun e w' => e = .returned (.int .i64 0) ∧ w' = w := by
  unfold badB at h
  simp at h
  obtain ⟨h0, h63⟩ := h
  have e : (s.toList == []) = false := by rw [nil_size]; simpa using h0
  go_enter Tryd.func72, Tryd.ntmps72
  go_wp2
  go_ret
  exact ⟨rfl, rfl⟩
set_option maxHeartbeats 1000000 in
theorem new_no (m : Int) (w : World) (h : m < 0 ∨ 65536 < m) : Calls Tryd.prog 34 #[.int .i64 m] w fun e w' => e = .returned (.tuple #[.pointer none, .int .i64 50]) ∧ w' = w := by
  by_cases h0 : m < 0
  · clear h
    go_enter Tryd.func34, Tryd.ntmps34
    go_wp2
    go_ret2
    exact ⟨rfl, rfl⟩
  · have h1 : 65536 < m := by omega
    clear h
    go_enter Tryd.func34, Tryd.ntmps34
    go_wp2
    go_ret2
    exact ⟨rfl, rfl⟩
set_option maxHeartbeats 1000000 in
theorem new_any (m : Nat) (w : World) (h : m ≤ 65536) : Calls Tryd.prog 34 #[.int .i64 (m : Int)] w fun e w' => ∃ p F, e = .returned (.tuple #[.pointer (some ⟨p, 0, none⟩), .int .i64 0]) ∧ Tb w' p m [] F ∧ (∀ k ∈ F, w.heap.size ≤ k) ∧ Below w.heap.size w w' := by
  have hmm := @run_makeMap Tryd.prog
  go_enter Tryd.func34, Tryd.ntmps34
  go_wp2
  go_ret2
  refine ⟨w.heap.size + 1, fp (w.heap.size + 1) w.heap.size (.slice none 0 0) (.slice none 0 0), rfl, ⟨w.heap.size, .slice none 0 0, .slice none 0 0, .map [], [], ⟨?_, ?_, World.ownsRow_nil _ _ _ _, World.ownsRow_nil _ _ _ _⟩, ⟨OkS.nil h, MapOf.nil, (fun x hx => by cases hx), (fun i => by simp [mem, isT, nm]), Nat.zero_le _⟩, rfl⟩, fun k hk => ?_, ?_⟩
  · have e : (w.alloc (Obj.map #[] 0)).heap.size = w.heap.size + 1 := by simp
    rw [← e]
    exact (MapKept.heap_alloc _ _).1
  · exact (((World.ownsMap_made w _ _ _).alloc _).mono (Nat.zero_le _))
  · simp [fp, Value.ownBlock] at hk
    omega
  · exact (((Below.refl _ _).alloc (Nat.le_refl _) _).alloc (by simp) _)
/-- How many names. -/
theorem Tm.c0 {w : World} {p m mb : Nat} {rs ks : Value} {D : DataW Unit} {l : List Rw} {ws : List Nat} (h : Tm w p m mb rs ks D l ws) : w.cell? ⟨p, 0, none⟩ = some (.int .i64 m) := by rw [cell_of_row w p 0 _ _ _ h.hp]; rfl
theorem Tm.c1 {w : World} {p m mb : Nat} {rs ks : Value} {D : DataW Unit} {l : List Rw} {ws : List Nat} (h : Tm w p m mb rs ks D l ws) : w.cell? ⟨p, 1, none⟩ = some (.map (some mb)) := by rw [cell_of_row w p 1 _ _ _ h.hp]; rfl
theorem Tm.c2 {w : World} {p m mb : Nat} {rs ks : Value} {D : DataW Unit} {l : List Rw} {ws : List Nat} (h : Tm w p m mb rs ks D l ws) : w.cell? ⟨p, 2, none⟩ = some rs := by rw [cell_of_row w p 2 _ _ _ h.hp]; rfl
theorem Tm.c3 {w : World} {p m mb : Nat} {rs ks : Value} {D : DataW Unit} {l : List Rw} {ws : List Nat} (h : Tm w p m mb rs ks D l ws) : w.cell? ⟨p, 3, none⟩ = some ks := by rw [cell_of_row w p 3 _ _ _ h.hp]; rfl
theorem Tm.fz {w : World} {p m mb : Nat} {rs ks : Value} {D : DataW Unit} {l : List Rw} {ws : List Nat} (h : Tm w p m mb rs ks D l ws) (j : Nat) : w.frozen? ⟨p, j, none⟩ = false := frozen_of_row w p j _ _ h.hp
set_option maxHeartbeats 1000000 in
theorem len_nil (w : World) : Calls Tryd.prog 38 #[.pointer none] w fun e w' => e = .returned (.int .i64 0) ∧ w' = w := by
  go_enter Tryd.func38, Tryd.ntmps38
  go_wp2
  go_ret
  exact ⟨rfl, rfl⟩
set_option maxHeartbeats 1000000 in
theorem len_any (p m : Nat) (l : List Rw) (F : List Nat) (w : World) (h : Tb w p m l F) : Calls Tryd.prog 38 #[.pointer (some ⟨p, 0, none⟩)] w fun e w' => e = .returned (.int .i64 (cnt l : Int)) ∧ w' = w := by
  obtain ⟨mb, rs, ks, D, ws, h1, h2, rfl⟩ := h
  have c1 := h1.c1
  have HM := hid h1.hm
  have HS := hid h2.mo.sz
  clear h1 h2
  go_enter Tryd.func38, Tryd.ntmps38
  go_wp2_with (at_len; refine wpList_len_own _ rfl _ 76 rfl 9 3 Tryd.underlying76 _ mb 65536 D rfl HM.out ?_)
  go_ret
  exact ⟨ret_int (by rw [HS.out]), rfl⟩
set_option maxHeartbeats 1000000 in
theorem span_nil (w : World) : Calls Tryd.prog 40 #[.pointer none] w fun e w' => e = .returned (.int .i64 0) ∧ w' = w := by
  go_enter Tryd.func40, Tryd.ntmps40
  go_wp2
  go_ret
  exact ⟨rfl, rfl⟩
theorem own_len {w : World} {base : Nat} {e : TypeId} {size n : Nat} {v : Value} {xs : List Value} (h : w.ownsRow base e size v n xs) : ∃ a cap, v = .slice a n cap := by
  rcases own_form h with ⟨rfl, rfl⟩ | ⟨g, cap, rfl, _⟩
  · exact ⟨none, 0, rfl⟩
  · exact ⟨_, cap, rfl⟩
set_option maxHeartbeats 1000000 in
theorem span_any (p m : Nat) (l : List Rw) (F : List Nat) (w : World) (h : Tb w p m l F) : Calls Tryd.prog 40 #[.pointer (some ⟨p, 0, none⟩)] w fun e w' => e = .returned (.int .i64 (l.length : Int)) ∧ w' = w := by
  obtain ⟨mb, rs, ks, D, ws, h1, h2, rfl⟩ := h
  have c2 := h1.c2
  obtain ⟨a, cap, rfl⟩ := own_len h1.hr
  clear h1 h2
  go_enter Tryd.func40, Tryd.ntmps40
  go_wp2
  go_ret
  exact ⟨rfl, rfl⟩
end Go.Proofs.YtdhjoimiejdgbaaDoor.L
