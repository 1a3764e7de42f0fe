import Derived.Test.YtfkijmmflpnncaaDoorMgAB
import Derived.Test.YtfkijmmflpnncaaDoorMgAN
import Derived.Test.YtfkijmmflpnncaaDoorMgAA
namespace Go.Proofs.YtfkijmmflpnncaaDoor.LS
open L
open Go.RowKit Bs Go.Maps
set_option linter.unusedVariables false
set_option maxHeartbeats 1000000 in
theorem check_nil (s : ByteArray) (w : World) : Calls Tryd.prog 32 #[.pointer none, .string s] w fun e w' => e = .returned (.int .i64 1) ∧ w' = w := by
  go_enter Tryd.func32, Tryd.ntmps32
  go_wp2
  go_ret
  exact ⟨rfl, rfl⟩
set_option maxHeartbeats 1000000 in
theorem check_bad (p : Nat) (s : ByteArray) (w : World) (hs : s.size ≤ maxLen) (h : badB s = true) : Calls Tryd.prog 32 #[.pointer (some ⟨p, 0, none⟩), .string s] w fun e w' => e = .returned (.int .i64 51) ∧ w' = w := by
  unfold badB at h
  unfold maxLen at hs
  by_cases h0 : s.size = 0
  · have e := size_empty h0
    subst e
    clear h h0 hs
    go_enter Tryd.func32, Tryd.ntmps32
    go_wp2
    go_ret
    exact ⟨rfl, rfl⟩
  · have e : (s.toList == []) = false := by rw [nil_size]; simpa using h0
    have h63 : 63 < s.size := by simpa [h0] using h
    clear h
    go_enter Tryd.func32, Tryd.ntmps32
    go_wp2
    go_ret
    exact ⟨rfl, rfl⟩
set_option maxHeartbeats 1000000 in
theorem check_ok (p : Nat) (s : ByteArray) (w : World) (h : badB s = false) : Calls Tryd.prog 32 #[.pointer (some ⟨p, 0, none⟩), .string s] w fun e w' => e = .returned (.int .i64 0) ∧ w' = w := by
  unfold badB at h
  simp at h
  obtain ⟨h0, h63⟩ := h
  have e : (s.toList == []) = false := by rw [nil_size]; simpa using h0
  go_enter Tryd.func32, Tryd.ntmps32
  go_wp2
  go_ret
  exact ⟨rfl, rfl⟩
set_option maxHeartbeats 1000000 in
theorem new_no (m : Int) (w : World) (h : m < 0 ∨ 65536 < m) : Calls Tryd.prog 6 #[.int .i64 m] w fun e w' => e = .returned (.tuple #[.pointer none, .int .i64 50]) ∧ w' = w := by
  by_cases h0 : m < 0
  · clear h
    go_enter Tryd.func6, Tryd.ntmps6
    go_wp2
    go_ret2
    exact ⟨rfl, rfl⟩
  · have h1 : 65536 < m := by omega
    clear h
    go_enter Tryd.func6, Tryd.ntmps6
    go_wp2
    go_ret2
    exact ⟨rfl, rfl⟩
set_option maxHeartbeats 1000000 in
theorem new_any (m : Nat) (w : World) (h : m ≤ 65536) : Calls Tryd.prog 6 #[.int .i64 (m : Int)] w fun e w' => ∃ p F, e = .returned (.tuple #[.pointer (some ⟨p, 0, none⟩), .int .i64 0]) ∧ Tb w' p m [] F ∧ (∀ k ∈ F, w.heap.size ≤ k) ∧ Below w.heap.size w w' := by
  have hmm := @run_makeMap Tryd.prog
  go_enter Tryd.func6, Tryd.ntmps6
  go_wp2
  go_ret2
  refine ⟨w.heap.size + 1, fp (w.heap.size + 1) w.heap.size (.slice none 0 0) (.slice none 0 0), rfl, ⟨w.heap.size, .slice none 0 0, .slice none 0 0, .map [], [], ⟨?_, ?_, World.ownsRow_nil _ _ _ _, World.ownsRow_nil _ _ _ _⟩, ⟨OkS.nil h, MapOf.nil, (fun x hx => by cases hx), (fun i => by simp [mem, isT, nm]), Nat.zero_le _⟩, rfl⟩, fun k hk => ?_, ?_⟩
  · have e : (w.alloc (Obj.map #[] 0)).heap.size = w.heap.size + 1 := by simp
    rw [← e]
    exact (MapKept.heap_alloc _ _).1
  · exact (((World.ownsMap_made w _ _ _).alloc _).mono (Nat.zero_le _))
  · simp [fp, Value.ownBlock] at hk
    omega
  · exact (((Below.refl _ _).alloc (Nat.le_refl _) _).alloc (by simp) _)
/-- How many names. -/
theorem Tm.c0 {w : World} {p m mb : Nat} {rs ks : Value} {D : DataW Unit} {l : List Rw} {ws : List Nat} (h : Tm w p m mb rs ks D l ws) : w.cell? ⟨p, 0, none⟩ = some (.int .i64 m) := by rw [cell_of_row w p 0 _ _ _ h.hp]; rfl
theorem Tm.c1 {w : World} {p m mb : Nat} {rs ks : Value} {D : DataW Unit} {l : List Rw} {ws : List Nat} (h : Tm w p m mb rs ks D l ws) : w.cell? ⟨p, 1, none⟩ = some (.map (some mb)) := by rw [cell_of_row w p 1 _ _ _ h.hp]; rfl
theorem Tm.c2 {w : World} {p m mb : Nat} {rs ks : Value} {D : DataW Unit} {l : List Rw} {ws : List Nat} (h : Tm w p m mb rs ks D l ws) : w.cell? ⟨p, 2, none⟩ = some rs := by rw [cell_of_row w p 2 _ _ _ h.hp]; rfl
theorem Tm.c3 {w : World} {p m mb : Nat} {rs ks : Value} {D : DataW Unit} {l : List Rw} {ws : List Nat} (h : Tm w p m mb rs ks D l ws) : w.cell? ⟨p, 3, none⟩ = some ks := by rw [cell_of_row w p 3 _ _ _ h.hp]; rfl
theorem Tm.fz {w : World} {p m mb : Nat} {rs ks : Value} {D : DataW Unit} {l : List Rw} {ws : List Nat} (h : Tm w p m mb rs ks D l ws) (j : Nat) : w.frozen? ⟨p, j, none⟩ = false := frozen_of_row w p j _ _ h.hp
set_option maxHeartbeats 1000000 in
theorem len_nil (w : World) : Calls Tryd.prog 45 #[.pointer none] w fun e w' => e = .returned (.int .i64 0) ∧ w' = w := by
  go_enter Tryd.func45, Tryd.ntmps45
  go_wp2
  go_ret
  exact ⟨rfl, rfl⟩
set_option maxHeartbeats 1000000 in
theorem len_any (p m : Nat) (l : List Rw) (F : List Nat) (w : World) (h : Tb w p m l F) : Calls Tryd.prog 45 #[.pointer (some ⟨p, 0, none⟩)] w fun e w' => e = .returned (.int .i64 (cnt l : Int)) ∧ w' = w := by
  obtain ⟨mb, rs, ks, D, ws, h1, h2, rfl⟩ := h
  have c1 := h1.c1
  have HM := hid h1.hm
  have HS := hid h2.mo.sz
  clear h1 h2
  go_enter Tryd.func45, Tryd.ntmps45
  go_wp2_with (at_len; refine wpList_len_own _ rfl _ 68 rfl 9 3 Tryd.underlying68 _ mb 65536 D rfl HM.out ?_)
  go_ret
  exact ⟨ret_int (by rw [HS.out]), rfl⟩
set_option maxHeartbeats 1000000 in
theorem span_nil (w : World) : Calls Tryd.prog 40 #[.pointer none] w fun e w' => e = .returned (.int .i64 0) ∧ w' = w := by
  go_enter Tryd.func40, Tryd.ntmps40
  go_wp2
  go_ret
  exact ⟨rfl, rfl⟩
set_option maxHeartbeats 1000000 in
theorem span_any (p m : Nat) (l : List Rw) (F : List Nat) (w : World) (h : Tb w p m l F) : Calls Tryd.prog 40 #[.pointer (some ⟨p, 0, none⟩)] w fun e w' => e = .returned (.int .i64 (l.length : Int)) ∧ w' = w := by
  obtain ⟨mb, rs, ks, D, ws, h1, h2, rfl⟩ := h
  have c2 := h1.c2
  obtain ⟨a, cap, rfl⟩ := own_len h1.hr
  clear h1 h2
  go_enter Tryd.func40, Tryd.ntmps40
  go_wp2
  go_ret
  exact ⟨rfl, rfl⟩
end Go.Proofs.YtfkijmmflpnncaaDoor.LS
namespace Go.Proofs.YtfkijmmflpnncaaDoor.LS
open L
open Go.RowKit Bs Go.Maps
set_option linter.unusedVariables false
set_option maxHeartbeats 1000000 in
theorem sought_nil (s : ByteArray) (w : World) : Calls Tryd.prog 37 #[.pointer none, .string s] w fun e w' => e = .returned (.tuple #[.int .i64 0, .int .i64 1]) ∧ w' = w := by
  have C := hid (check_nil s w)
  go_enter Tryd.func37, Tryd.ntmps37
  go_wp2_with (go_at_call 32; refine C.out.mono ?_; rintro e w2 ⟨rfl, hww⟩; subst hww)
  go_ret2
  exact ⟨rfl, rfl⟩
set_option maxHeartbeats 1000000 in
theorem sought_bad (p : Nat) (s : ByteArray) (w : World) (hs : s.size ≤ maxLen) (h : badB s = true) : Calls Tryd.prog 37 #[.pointer (some ⟨p, 0, none⟩), .string s] w fun e w' => e = .returned (.tuple #[.int .i64 0, .int .i64 51]) ∧ w' = w := by
  have C := hid (check_bad p s w hs h)
  clear h
  go_enter Tryd.func37, Tryd.ntmps37
  go_wp2_with (go_at_call 32; refine C.out.mono ?_; rintro e w2 ⟨rfl, hww⟩; subst hww)
  go_ret2
  exact ⟨rfl, rfl⟩
set_option maxHeartbeats 1000000 in
theorem sought_no (p m : Nat) (l : List Rw) (F : List Nat) (s : ByteArray) (w : World) (h : Tb w p m l F) (hb : badB s = false) (hn : NoN l s) : Calls Tryd.prog 37 #[.pointer (some ⟨p, 0, none⟩), .string s] w fun e w' => e = .returned (.tuple #[.int .i64 0, .int .i64 54]) ∧ w' = w := by
  have C := hid (check_ok p s w hb)
  obtain ⟨mb, rs, ks, D, ws, h1, h2, rfl⟩ := h
  have c1 := h1.c1
  have HM := hid h1.hm
  obtain ⟨hh, hat⟩ := h2.mo.no hn
  have HAT := hid hat
  have HK := hid (keyS_of (maxLen_of hb))
  clear h1 h2 hat hn hb
  go_enter Tryd.func37, Tryd.ntmps37
  go_wp2_with (first
    | (go_at_call 32; refine C.out.mono ?_; rintro e w2 ⟨rfl, hww⟩; subst hww)
    | (at_lookup; refine wpList_lookup_own_ok_int _ rfl _ _ 68 rfl 9 3 .i64 keyS Tryd.underlying68 Tryd.underlying3 (zeroI _) mb 65536 D rfl HM.out _ _ rfl HK.out ?_; intro c hat hwc; obtain rfl := HAT.out c hat; clear hat hwc))
  go_ret2
  exact ⟨rfl, rfl⟩
set_option maxHeartbeats 1000000 in
theorem sought_yes (p m i : Nat) (l : List Rw) (F : List Nat) (s : ByteArray) (w : World) (h : Tb w p m l F) (hb : badB s = false) (hi : isT l i = true) (hs : nm l i = s) : Calls Tryd.prog 37 #[.pointer (some ⟨p, 0, none⟩), .string s] w fun e w' => e = .returned (.tuple #[.int .i64 (i : Int), .int .i64 0]) ∧ w' = w := by
  have C := hid (check_ok p s w hb)
  obtain ⟨mb, rs, ks, D, ws, h1, h2, rfl⟩ := h
  have c1 := h1.c1
  have HM := hid h1.hm
  obtain ⟨hh, hat⟩ := h2.mo.yes hi
  rw [hs] at hh hat
  have HAT := hid hat
  have HK := hid (keyS_of (maxLen_of hb))
  clear h1 h2 hat hb hi hs
  go_enter Tryd.func37, Tryd.ntmps37
  go_wp2_with (first
    | (go_at_call 32; refine C.out.mono ?_; rintro e w2 ⟨rfl, hww⟩; subst hww)
    | (at_lookup; refine wpList_lookup_own_ok_int _ rfl _ _ 68 rfl 9 3 .i64 keyS Tryd.underlying68 Tryd.underlying3 (zeroI _) mb 65536 D rfl HM.out _ _ rfl HK.out ?_; intro c hat hwc; obtain rfl := HAT.out c hat; clear hat hwc))
  go_ret2
  exact ⟨rfl, rfl⟩
/-- The value in a slot. -/
def vlu (l : List Rw) (i : Nat) : ByteArray := (l[i]?.map (·.2)).getD ByteArray.empty
theorem vlu_at {l : List Rw} {i : Nat} (h : i < l.length) : vlu l i = (l[i]).2 := by unfold vlu; rw [List.getElem?_eq_getElem h]; rfl
/-- The cells of a row. -/
theorem Tm.rows {w : World} {p m mb : Nat} {rs ks : Value} {D : DataW Unit} {l : List Rw} {ws : List Nat} (h : Tm w p m mb rs ks D l ws) {i : Nat} (hi : i < l.length) : ∃ g cap, rs = .slice (some ⟨g, 0, none⟩) l.length cap ∧ g < w.heap.size ∧ w.cell? ⟨g, i * 2, none⟩ = some (.string (nm l i)) ∧ w.cell? ⟨g, i * 2 + 1, none⟩ = some (.string (vlu l i)) := by
  rcases own_form h.hr with ⟨rfl, h0⟩ | ⟨g, cap, rfl, _, _, hlt⟩
  · omega
  · refine ⟨g, cap, rfl, hlt, ?_, ?_⟩
    · have := h.hr.cells (g := g) rfl _ _ (cellsR_at0 l i hi)
      rw [Go.WideShapes.add_plain, ← nm_at hi] at this
      simpa using this
    · have := h.hr.cells (g := g) rfl _ _ (cellsR_at1 l i hi)
      rw [Go.WideShapes.add_plain, ← vlu_at hi] at this
      simpa using this
end Go.Proofs.YtfkijmmflpnncaaDoor.LS
