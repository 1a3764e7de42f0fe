import Derived.Test.YtdhjoimiejdgbaaDoorSck
namespace Go.Proofs.YtdhjoimiejdgbaaDoor.L
open Go.RowKit Bs Go.Maps
set_option linter.unusedVariables false
/-- The name stands in no slot. -/
def NoN {α : Type} (l : List (ByteArray × α)) (s : ByteArray) : Prop := ∀ i, isT l i = true → nm l i ≠ s
theorem there_or {α : Type} (l : List (ByteArray × α)) (s : ByteArray) : NoN l s ∨ ∃ i, isT l i = true ∧ nm l i = s := by
  by_cases h : ∃ i, isT l i = true ∧ nm l i = s
  · exact Or.inr h
  · exact Or.inl (fun i hi e => h ⟨i, hi, e⟩)
theorem MapOf.no {α : Type} {D : DataW Unit} {l : List (ByteArray × α)} (h : MapOf D l) {s : ByteArray} (hn : NoN l s) : Maps.has D (kS s) = false ∧ ∀ c : Int, D.atKey (kS s) (.lit (.int .i64 0)) = .lit (.int .i64 c) → c = 0 := by
  have e : Maps.has D (kS s) = false := by
    cases c : Maps.has D (kS s)
    · rfl
    · obtain ⟨i, hi, e⟩ := (h.has s).1 c
      exact absurd e (hn i hi)
  refine ⟨e, fun c hc => ?_⟩
  rw [Maps.atKey_of_not_has e] at hc
  injection hc with hc; injection hc with _ hc; exact hc.symm
theorem MapOf.yes {α : Type} {D : DataW Unit} {l : List (ByteArray × α)} (h : MapOf D l) {i : Nat} (hi : isT l i = true) : Maps.has D (kS (nm l i)) = true ∧ ∀ c : Int, D.atKey (kS (nm l i)) (.lit (.int .i64 0)) = .lit (.int .i64 c) → c = (i : Int) := by
  refine ⟨(h.has _).2 ⟨i, hi, rfl⟩, fun c hc => ?_⟩
  have := h.at_ i hi
  rw [hc] at this
  injection this with this; injection this with _ this
theorem maxLen_of {s : ByteArray} (h : badB s = false) : s.size ≤ maxLen := by
  unfold badB at h
  simp at h
  unfold maxLen
  omega
set_option maxHeartbeats 1000000 in
theorem sought_nil (s : ByteArray) (w : World) : Calls Tryd.prog 74 #[.pointer none, .string s] w fun e w' => e = .returned (.tuple #[.int .i64 0, .int .i64 1]) ∧ w' = w := by
  have C := hid (check_nil s w)
  go_enter Tryd.func74, Tryd.ntmps74
  go_wp2_with (go_at_call 72; refine C.out.mono ?_; rintro e w2 ⟨rfl, hww⟩; subst hww)
  go_ret2
  exact ⟨rfl, rfl⟩
set_option maxHeartbeats 1000000 in
theorem sought_bad (p : Nat) (s : ByteArray) (w : World) (hs : s.size ≤ maxLen) (h : badB s = true) : Calls Tryd.prog 74 #[.pointer (some ⟨p, 0, none⟩), .string s] w fun e w' => e = .returned (.tuple #[.int .i64 0, .int .i64 51]) ∧ w' = w := by
  have C := hid (check_bad p s w hs h)
  clear h
  go_enter Tryd.func74, Tryd.ntmps74
  go_wp2_with (go_at_call 72; refine C.out.mono ?_; rintro e w2 ⟨rfl, hww⟩; subst hww)
  go_ret2
  exact ⟨rfl, rfl⟩
set_option maxHeartbeats 1000000 in
theorem sought_no (p m : Nat) (l : List Rw) (F : List Nat) (s : ByteArray) (w : World) (h : Tb w p m l F) (hb : badB s = false) (hn : NoN l s) : Calls Tryd.prog 74 #[.pointer (some ⟨p, 0, none⟩), .string s] w fun e w' => e = .returned (.tuple #[.int .i64 0, .int .i64 54]) ∧ w' = w := by
  have C := hid (check_ok p s w hb)
  obtain ⟨mb, rs, ks, D, ws, h1, h2, rfl⟩ := h
  have c1 := h1.c1
  have HM := hid h1.hm
  obtain ⟨hh, hat⟩ := h2.mo.no hn
  have HAT := hid hat
  have HK := hid (keyS_of (maxLen_of hb))
  clear h1 h2 hat hn hb
  go_enter Tryd.func74, Tryd.ntmps74
  go_wp2_with (first
    | (go_at_call 72; refine C.out.mono ?_; rintro e w2 ⟨rfl, hww⟩; subst hww)
    | (at_lookup; refine wpList_lookup_own_ok_int _ rfl _ _ 76 rfl 9 3 .i64 keyS Tryd.underlying76 Tryd.underlying3 (zeroI _) mb 65536 D rfl HM.out _ _ rfl HK.out ?_; intro c hat hwc; obtain rfl := HAT.out c hat; clear hat hwc))
  go_ret2
  exact ⟨rfl, rfl⟩
set_option maxHeartbeats 1000000 in
theorem sought_yes (p m i : Nat) (l : List Rw) (F : List Nat) (s : ByteArray) (w : World) (h : Tb w p m l F) (hb : badB s = false) (hi : isT l i = true) (hs : nm l i = s) : Calls Tryd.prog 74 #[.pointer (some ⟨p, 0, none⟩), .string s] w fun e w' => e = .returned (.tuple #[.int .i64 (i : Int), .int .i64 0]) ∧ w' = w := by
  have C := hid (check_ok p s w hb)
  obtain ⟨mb, rs, ks, D, ws, h1, h2, rfl⟩ := h
  have c1 := h1.c1
  have HM := hid h1.hm
  obtain ⟨hh, hat⟩ := h2.mo.yes hi
  rw [hs] at hh hat
  have HAT := hid hat
  have HK := hid (keyS_of (maxLen_of hb))
  clear h1 h2 hat hb hi hs
  go_enter Tryd.func74, Tryd.ntmps74
  go_wp2_with (first
    | (go_at_call 72; refine C.out.mono ?_; rintro e w2 ⟨rfl, hww⟩; subst hww)
    | (at_lookup; refine wpList_lookup_own_ok_int _ rfl _ _ 76 rfl 9 3 .i64 keyS Tryd.underlying76 Tryd.underlying3 (zeroI _) mb 65536 D rfl HM.out _ _ rfl HK.out ?_; intro c hat hwc; obtain rfl := HAT.out c hat; clear hat hwc))
  go_ret2
  exact ⟨rfl, rfl⟩
/-- The value in a slot. -/
def vlu (l : List Rw) (i : Nat) : Int := (l[i]?.map (·.2)).getD 0
theorem vlu_at {l : List Rw} {i : Nat} (h : i < l.length) : vlu l i = (l[i]).2 := by unfold vlu; rw [List.getElem?_eq_getElem h]; rfl
/-- The cells of a row. -/
theorem Tm.rows {w : World} {p m mb : Nat} {rs ks : Value} {D : DataW Unit} {l : List Rw} {ws : List Nat} (h : Tm w p m mb rs ks D l ws) {i : Nat} (hi : i < l.length) : ∃ g cap, rs = .slice (some ⟨g, 0, none⟩) l.length cap ∧ g < w.heap.size ∧ w.cell? ⟨g, i * 2, none⟩ = some (.string (nm l i)) ∧ w.cell? ⟨g, i * 2 + 1, none⟩ = some (.int .i64 (vlu l i)) := by
  rcases own_form h.hr with ⟨rfl, h0⟩ | ⟨g, cap, rfl, _, _, hlt⟩
  · omega
  · refine ⟨g, cap, rfl, hlt, ?_, ?_⟩
    · have := h.hr.cells (g := g) rfl _ _ (cellsR_at0 l i hi)
      rw [Go.WideShapes.add_plain, ← nm_at hi] at this
      simpa using this
    · have := h.hr.cells (g := g) rfl _ _ (cellsR_at1 l i hi)
      rw [Go.WideShapes.add_plain, ← vlu_at hi] at this
      simpa using this
set_option maxHeartbeats 1000000 in
theorem find_nil (s : ByteArray) (w : World) : Calls Tryd.prog 39 #[.pointer none, .string s] w fun e w' => e = .returned (.tuple #[.int .i64 0, .int .i64 0, .bool false]) ∧ w' = w := by
  go_enter Tryd.func39, Tryd.ntmps39
  go_wp2
  go_ret3
  exact ⟨rfl, rfl⟩
set_option maxHeartbeats 1000000 in
theorem find_no (p m : Nat) (l : List Rw) (F : List Nat) (s : ByteArray) (w : World) (h : Tb w p m l F) (hs : s.size ≤ maxLen) (hn : NoN l s) : Calls Tryd.prog 39 #[.pointer (some ⟨p, 0, none⟩), .string s] w fun e w' => e = .returned (.tuple #[.int .i64 0, .int .i64 0, .bool false]) ∧ w' = w := by
  obtain ⟨mb, rs, ks, D, ws, h1, h2, rfl⟩ := h
  have c1 := h1.c1
  have HM := hid h1.hm
  obtain ⟨hh, hat⟩ := h2.mo.no hn
  have HAT := hid hat
  have HK := hid (keyS_of hs)
  clear h1 h2 hat hn hs
  go_enter Tryd.func39, Tryd.ntmps39
  go_wp2_with (at_lookup; refine wpList_lookup_own_ok_int _ rfl _ _ 76 rfl 9 3 .i64 keyS Tryd.underlying76 Tryd.underlying3 (zeroI _) mb 65536 D rfl HM.out _ _ rfl HK.out ?_; intro c hat hwc; obtain rfl := HAT.out c hat; clear hat hwc)
  go_ret3
  exact ⟨rfl, rfl⟩
set_option maxHeartbeats 1000000 in
theorem find_yes (p m i : Nat) (l : List Rw) (F : List Nat) (s : ByteArray) (w : World) (h : Tb w p m l F) (hi : isT l i = true) (hs : nm l i = s) : Calls Tryd.prog 39 #[.pointer (some ⟨p, 0, none⟩), .string s] w fun e w' => e = .returned (.tuple #[.int .i64 (i : Int), .int .i64 (vlu l i), .bool true]) ∧ ∃ n, w' = w.drewN n := by
  have hsz := h.ok.sz i
  have hle := Nat.le_trans h.ok.le h.ok.mm
  obtain ⟨mb, rs, ks, D, ws, h1, h2, rfl⟩ := h
  have c1 := h1.c1
  have c2 := h1.c2
  have hil := isT_lt hi
  obtain ⟨g, cap, rfl, hg, r0, r1⟩ := h1.rows hil
  have HM := hid h1.hm
  obtain ⟨hh, hat⟩ := h2.mo.yes hi
  rw [hs] at hh hat hsz r0
  have HAT := hid hat
  have HK := hid (keyS_of (show s.size ≤ maxLen by unfold maxLen; omega))
  clear h1 h2 hat hi hs hsz
  generalize l.length = L at *
  generalize vlu l i = v at *
  go_enter Tryd.func39, Tryd.ntmps39
  go_wp2_with (at_lookup; refine wpList_lookup_own_ok_int _ rfl _ _ 76 rfl 9 3 .i64 keyS Tryd.underlying76 Tryd.underlying3 (zeroI _) mb 65536 D rfl HM.out _ _ rfl HK.out ?_; intro c hat hwc; obtain rfl := HAT.out c hat; clear hat hwc)
  go_quiet (fail)
  go_wp2
  go_ret3
  exact ⟨rfl, _, rfl⟩
end Go.Proofs.YtdhjoimiejdgbaaDoor.L
