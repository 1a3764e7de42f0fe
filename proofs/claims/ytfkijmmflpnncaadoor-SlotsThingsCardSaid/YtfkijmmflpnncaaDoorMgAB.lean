import Derived.Test.YtfkijmmflpnncaaDoorMgAA
namespace Go.Proofs.YtfkijmmflpnncaaDoor.L
open Go.RowKit Bs Go.Maps
set_option linter.unusedVariables false
theorem nil_size {s : ByteArray} : (s.toList == []) = decide (s.size = 0) := by
  rw [bytes_toList]
  cases s with | mk d =>
  show (d.toList == []) = decide (d.size = 0)
  cases h : d.toList with
  | nil =>
    have : d.size = 0 := by rw [← Array.length_toList, h]; rfl
    simp [this]
  | cons x r =>
    have : d.size ≠ 0 := by rw [← Array.length_toList, h]; simp
    simp [this]
set_option maxHeartbeats 1000000 in
theorem check_nil (s : ByteArray) (w : World) : Calls Tryd.prog 47 #[.pointer none, .string s] w fun e w' => e = .returned (.int .i64 1) ∧ w' = w := by
  go_enter Tryd.func47, Tryd.ntmps47
  go_wp2
  go_ret
  exact ⟨rfl, rfl⟩
/-- No name. -/
def badB (s : ByteArray) : Bool := decide (s.size = 0) || decide (63 < s.size)
set_option maxHeartbeats 1000000 in
theorem check_bad (p : Nat) (s : ByteArray) (w : World) (hs : s.size ≤ maxLen) (h : badB s = true) : Calls Tryd.prog 47 #[.pointer (some ⟨p, 0, none⟩), .string s] w fun e w' => e = .returned (.int .i64 51) ∧ w' = w := by
  unfold badB at h
  unfold maxLen at hs
  by_cases h0 : s.size = 0
  · have e := size_empty h0
    subst e
    clear h h0 hs
    go_enter Tryd.func47, Tryd.ntmps47
    go_wp2
    go_ret
    exact ⟨rfl, rfl⟩
  · have e : (s.toList == []) = false := by rw [nil_size]; simpa using h0
    have h63 : 63 < s.size := by simpa [h0] using h
    clear h
    go_enter Tryd.func47, Tryd.ntmps47
    go_wp2
    go_ret
    exact ⟨rfl, rfl⟩
set_option maxHeartbeats 1000000 in
theorem check_ok (p : Nat) (s : ByteArray) (w : World) (h : badB s = false) : Calls Tryd.prog 47 #[.pointer (some ⟨p, 0, none⟩), .string s] w fun e w' => e = .returned (.int .i64 0) ∧ w' = w := by
  unfold badB at h
  simp at h
  obtain ⟨h0, h63⟩ := h
  have e : (s.toList == []) = false := by rw [nil_size]; simpa using h0
  go_enter Tryd.func47, Tryd.ntmps47
  go_wp2
  go_ret
  exact ⟨rfl, rfl⟩
set_option maxHeartbeats 1000000 in
theorem new_no (m : Int) (w : World) (h : m < 0 ∨ 65536 < m) : Calls Tryd.prog 26 #[.int .i64 m] w fun e w' => e = .returned (.tuple #[.pointer none, .int .i64 50]) ∧ w' = w := by
  by_cases h0 : m < 0
  · clear h
    go_enter Tryd.func26, Tryd.ntmps26
    go_wp2
    go_ret2
    exact ⟨rfl, rfl⟩
  · have h1 : 65536 < m := by omega
    clear h
    go_enter Tryd.func26, Tryd.ntmps26
    go_wp2
    go_ret2
    exact ⟨rfl, rfl⟩
set_option maxHeartbeats 1000000 in
theorem new_any (m : Nat) (w : World) (h : m ≤ 65536) : Calls Tryd.prog 26 #[.int .i64 (m : Int)] w fun e w' => ∃ p F, e = .returned (.tuple #[.pointer (some ⟨p, 0, none⟩), .int .i64 0]) ∧ Tb w' p m [] F ∧ (∀ k ∈ F, w.heap.size ≤ k) ∧ Below w.heap.size w w' := by
  have hmm := @run_makeMap Tryd.prog
  go_enter Tryd.func26, Tryd.ntmps26
  go_wp2
  go_ret2
  refine ⟨w.heap.size + 1, fp (w.heap.size + 1) w.heap.size (.slice none 0 0) (.slice none 0 0), rfl, ⟨w.heap.size, .slice none 0 0, .slice none 0 0, .map [], [], ⟨?_, ?_, World.ownsRow_nil _ _ _ _, World.ownsRow_nil _ _ _ _⟩, ⟨OkS.nil h, MapOf.nil, (fun x hx => by cases hx), (fun i => by simp [mem, isT, nm]), Nat.zero_le _⟩, rfl⟩, fun k hk => ?_, ?_⟩
  · have e : (w.alloc (Obj.map #[] 0)).heap.size = w.heap.size + 1 := by simp
    rw [← e]
    exact (MapKept.heap_alloc _ _).1
  · exact (((World.ownsMap_made w _ _ _).alloc _).mono (Nat.zero_le _))
  · simp [fp, Value.ownBlock] at hk
    omega
  · exact (((Below.refl _ _).alloc (Nat.le_refl _) _).alloc (by simp) _)
/-- How many names. -/
theorem Tm.c0 {w : World} {p m mb : Nat} {rs ks : Value} {D : DataW Unit} {l : List Rw} {ws : List Nat} (h : Tm w p m mb rs ks D l ws) : w.cell? ⟨p, 0, none⟩ = some (.int .i64 m) := by rw [cell_of_row w p 0 _ _ _ h.hp]; rfl
theorem Tm.c1 {w : World} {p m mb : Nat} {rs ks : Value} {D : DataW Unit} {l : List Rw} {ws : List Nat} (h : Tm w p m mb rs ks D l ws) : w.cell? ⟨p, 1, none⟩ = some (.map (some mb)) := by rw [cell_of_row w p 1 _ _ _ h.hp]; rfl
theorem Tm.c2 {w : World} {p m mb : Nat} {rs ks : Value} {D : DataW Unit} {l : List Rw} {ws : List Nat} (h : Tm w p m mb rs ks D l ws) : w.cell? ⟨p, 2, none⟩ = some rs := by rw [cell_of_row w p 2 _ _ _ h.hp]; rfl
theorem Tm.c3 {w : World} {p m mb : Nat} {rs ks : Value} {D : DataW Unit} {l : List Rw} {ws : List Nat} (h : Tm w p m mb rs ks D l ws) : w.cell? ⟨p, 3, none⟩ = some ks := by rw [cell_of_row w p 3 _ _ _ h.hp]; rfl
theorem Tm.fz {w : World} {p m mb : Nat} {rs ks : Value} {D : DataW Unit} {l : List Rw} {ws : List Nat} (h : Tm w p m mb rs ks D l ws) (j : Nat) : w.frozen? ⟨p, j, none⟩ = false := frozen_of_row w p j _ _ h.hp
theorem own_len {w : World} {base : Nat} {e : TypeId} {size n : Nat} {v : Value} {xs : List Value} (h : w.ownsRow base e size v n xs) : ∃ a cap, v = .slice a n cap := by
  rcases own_form h with ⟨rfl, rfl⟩ | ⟨g, cap, rfl, _⟩
  · exact ⟨none, 0, rfl⟩
  · exact ⟨_, cap, rfl⟩
end Go.Proofs.YtfkijmmflpnncaaDoor.L
namespace Go.Proofs.YtfkijmmflpnncaaDoor.L
open Go.RowKit Bs Go.Maps
set_option linter.unusedVariables false
/-- The name stands in no slot. -/
def NoN {α : Type} (l : List (ByteArray × α)) (s : ByteArray) : Prop := ∀ i, isT l i = true → nm l i ≠ s
theorem there_or {α : Type} (l : List (ByteArray × α)) (s : ByteArray) : NoN l s ∨ ∃ i, isT l i = true ∧ nm l i = s := by
  by_cases h : ∃ i, isT l i = true ∧ nm l i = s
  · exact Or.inr h
  · exact Or.inl (fun i hi e => h ⟨i, hi, e⟩)
theorem MapOf.no {α : Type} {D : DataW Unit} {l : List (ByteArray × α)} (h : MapOf D l) {s : ByteArray} (hn : NoN l s) : Maps.has D (kS s) = false ∧ ∀ c : Int, D.atKey (kS s) (.lit (.int .i64 0)) = .lit (.int .i64 c) → c = 0 := by
  have e : Maps.has D (kS s) = false := by
    cases c : Maps.has D (kS s)
    · rfl
    · obtain ⟨i, hi, e⟩ := (h.has s).1 c
      exact absurd e (hn i hi)
  refine ⟨e, fun c hc => ?_⟩
  rw [Maps.atKey_of_not_has e] at hc
  injection hc with hc; injection hc with _ hc; exact hc.symm
theorem MapOf.yes {α : Type} {D : DataW Unit} {l : List (ByteArray × α)} (h : MapOf D l) {i : Nat} (hi : isT l i = true) : Maps.has D (kS (nm l i)) = true ∧ ∀ c : Int, D.atKey (kS (nm l i)) (.lit (.int .i64 0)) = .lit (.int .i64 c) → c = (i : Int) := by
  refine ⟨(h.has _).2 ⟨i, hi, rfl⟩, fun c hc => ?_⟩
  have := h.at_ i hi
  rw [hc] at this
  injection this with this; injection this with _ this
theorem maxLen_of {s : ByteArray} (h : badB s = false) : s.size ≤ maxLen := by
  unfold badB at h
  simp at h
  unfold maxLen
  omega
set_option maxHeartbeats 1000000 in
theorem sought_nil (s : ByteArray) (w : World) : Calls Tryd.prog 49 #[.pointer none, .string s] w fun e w' => e = .returned (.tuple #[.int .i64 0, .int .i64 1]) ∧ w' = w := by
  have C := hid (check_nil s w)
  go_enter Tryd.func49, Tryd.ntmps49
  go_wp2_with (go_at_call 47; refine C.out.mono ?_; rintro e w2 ⟨rfl, hww⟩; subst hww)
  go_ret2
  exact ⟨rfl, rfl⟩
set_option maxHeartbeats 1000000 in
theorem sought_bad (p : Nat) (s : ByteArray) (w : World) (hs : s.size ≤ maxLen) (h : badB s = true) : Calls Tryd.prog 49 #[.pointer (some ⟨p, 0, none⟩), .string s] w fun e w' => e = .returned (.tuple #[.int .i64 0, .int .i64 51]) ∧ w' = w := by
  have C := hid (check_bad p s w hs h)
  clear h
  go_enter Tryd.func49, Tryd.ntmps49
  go_wp2_with (go_at_call 47; refine C.out.mono ?_; rintro e w2 ⟨rfl, hww⟩; subst hww)
  go_ret2
  exact ⟨rfl, rfl⟩
set_option maxHeartbeats 1000000 in
theorem sought_no (p m : Nat) (l : List Rw) (F : List Nat) (s : ByteArray) (w : World) (h : Tb w p m l F) (hb : badB s = false) (hn : NoN l s) : Calls Tryd.prog 49 #[.pointer (some ⟨p, 0, none⟩), .string s] w fun e w' => e = .returned (.tuple #[.int .i64 0, .int .i64 54]) ∧ w' = w := by
  have C := hid (check_ok p s w hb)
  obtain ⟨mb, rs, ks, D, ws, h1, h2, rfl⟩ := h
  have c1 := h1.c1
  have HM := hid h1.hm
  obtain ⟨hh, hat⟩ := h2.mo.no hn
  have HAT := hid hat
  have HK := hid (keyS_of (maxLen_of hb))
  clear h1 h2 hat hn hb
  go_enter Tryd.func49, Tryd.ntmps49
  go_wp2_with (first
    | (go_at_call 47; refine C.out.mono ?_; rintro e w2 ⟨rfl, hww⟩; subst hww)
    | (at_lookup; refine wpList_lookup_own_ok_int _ rfl _ _ 68 rfl 9 3 .i64 keyS Tryd.underlying68 Tryd.underlying3 (zeroI _) mb 65536 D rfl HM.out _ _ rfl HK.out ?_; intro c hat hwc; obtain rfl := HAT.out c hat; clear hat hwc))
  go_ret2
  exact ⟨rfl, rfl⟩
set_option maxHeartbeats 1000000 in
theorem sought_yes (p m i : Nat) (l : List Rw) (F : List Nat) (s : ByteArray) (w : World) (h : Tb w p m l F) (hb : badB s = false) (hi : isT l i = true) (hs : nm l i = s) : Calls Tryd.prog 49 #[.pointer (some ⟨p, 0, none⟩), .string s] w fun e w' => e = .returned (.tuple #[.int .i64 (i : Int), .int .i64 0]) ∧ w' = w := by
  have C := hid (check_ok p s w hb)
  obtain ⟨mb, rs, ks, D, ws, h1, h2, rfl⟩ := h
  have c1 := h1.c1
  have HM := hid h1.hm
  obtain ⟨hh, hat⟩ := h2.mo.yes hi
  rw [hs] at hh hat
  have HAT := hid hat
  have HK := hid (keyS_of (maxLen_of hb))
  clear h1 h2 hat hb hi hs
  go_enter Tryd.func49, Tryd.ntmps49
  go_wp2_with (first
    | (go_at_call 47; refine C.out.mono ?_; rintro e w2 ⟨rfl, hww⟩; subst hww)
    | (at_lookup; refine wpList_lookup_own_ok_int _ rfl _ _ 68 rfl 9 3 .i64 keyS Tryd.underlying68 Tryd.underlying3 (zeroI _) mb 65536 D rfl HM.out _ _ rfl HK.out ?_; intro c hat hwc; obtain rfl := HAT.out c hat; clear hat hwc))
  go_ret2
  exact ⟨rfl, rfl⟩
/-- The value in a slot. -/
def vlu (l : List Rw) (i : Nat) : Int := (l[i]?.map (·.2)).getD 0
theorem vlu_at {l : List Rw} {i : Nat} (h : i < l.length) : vlu l i = (l[i]).2 := by unfold vlu; rw [List.getElem?_eq_getElem h]; rfl
/-- The cells of a row. -/
theorem Tm.rows {w : World} {p m mb : Nat} {rs ks : Value} {D : DataW Unit} {l : List Rw} {ws : List Nat} (h : Tm w p m mb rs ks D l ws) {i : Nat} (hi : i < l.length) : ∃ g cap, rs = .slice (some ⟨g, 0, none⟩) l.length cap ∧ g < w.heap.size ∧ w.cell? ⟨g, i * 2, none⟩ = some (.string (nm l i)) ∧ w.cell? ⟨g, i * 2 + 1, none⟩ = some (.int .i64 (vlu l i)) := by
  rcases own_form h.hr with ⟨rfl, h0⟩ | ⟨g, cap, rfl, _, _, hlt⟩
  · omega
  · refine ⟨g, cap, rfl, hlt, ?_, ?_⟩
    · have := h.hr.cells (g := g) rfl _ _ (cellsR_at0 l i hi)
      rw [Go.WideShapes.add_plain, ← nm_at hi] at this
      simpa using this
    · have := h.hr.cells (g := g) rfl _ _ (cellsR_at1 l i hi)
      rw [Go.WideShapes.add_plain, ← vlu_at hi] at this
      simpa using this
end Go.Proofs.YtfkijmmflpnncaaDoor.L
