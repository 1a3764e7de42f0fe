import Derived.Test.YtdhjoimiejdgbabDoorMgH
import Derived.Maps.AppendAt
import Derived.RegionTactic
import Derived.BigRegion
namespace Go.Proofs.YtdhjoimiejdgbabDoor.L
open Go.RowKit Bs Go.Maps
set_option linter.unusedVariables false
theorem nil_size {s : ByteArray} : (s.toList == []) = decide (s.size = 0) := by
  rw [bytes_toList]
  cases s with | mk d =>
  show (d.toList == []) = decide (d.size = 0)
  cases h : d.toList with
  | nil =>
    have : d.size = 0 := by rw [← Array.length_toList, h]; rfl
    simp [this]
  | cons x r =>
    have : d.size ≠ 0 := by rw [← Array.length_toList, h]; simp
    simp [this]
set_option maxHeartbeats 1000000 in
theorem check_nil (s : ByteArray) (w : World) : Calls Tryd.prog 20 #[.pointer none, .string s] w fun e w' => e = .returned (.int .i64 1) ∧ w' = w := by
  go_enter Tryd.func20, Tryd.ntmps20
  go_wp2
  go_ret
  exact ⟨rfl, rfl⟩
/-- No name. -/
def badB (s : ByteArray) : Bool := decide (s.size = 0) || decide (63 < s.size)
set_option maxHeartbeats 1000000 in
theorem check_bad (p : Nat) (s : ByteArray) (w : World) (hs : s.size ≤ maxLen) (h : badB s = true) : Calls Tryd.prog 20 #[.pointer (some ⟨p, 0, none⟩), .string s] w fun e w' => e = .returned (.int .i64 51) ∧ w' = w := by
  unfold badB at h
  unfold maxLen at hs
  by_cases h0 : s.size = 0
  · have e := size_empty h0
    subst e
    clear h h0 hs
    go_enter Tryd.func20, Tryd.ntmps20
    go_wp2
    go_ret
    exact ⟨rfl, rfl⟩
  · have e : (s.toList == []) = false := by rw [nil_size]; simpa using h0
    have h63 : 63 < s.size := by simpa [h0] using h
    clear h
    go_enter Tryd.func20, Tryd.ntmps20
    go_wp2
    go_ret
    exact ⟨rfl, rfl⟩
set_option maxHeartbeats 1000000 in
theorem check_ok (p : Nat) (s : ByteArray) (w : World) (h : badB s = false) : Calls Tryd.prog 20 #[.pointer (some ⟨p, 0, none⟩), .string s] w fun e w' => e = .returned (.int .i64 0) ∧ w' = w := by
  unfold badB at h
  simp at h
  obtain ⟨h0, h63⟩ := h
  have e : (s.toList == []) = false := by rw [nil_size]; simpa using h0
  go_enter Tryd.func20, Tryd.ntmps20
  go_wp2
  go_ret
  exact ⟨rfl, rfl⟩
set_option maxHeartbeats 1000000 in
theorem new_no (m : Int) (w : World) (h : m < 0 ∨ 65536 < m) : Calls Tryd.prog 6 #[.int .i64 m] w fun e w' => e = .returned (.tuple #[.pointer none, .int .i64 50]) ∧ w' = w := by
  by_cases h0 : m < 0
  · clear h
    go_enter Tryd.func6, Tryd.ntmps6
    go_wp2
    go_ret2
    exact ⟨rfl, rfl⟩
  · have h1 : 65536 < m := by omega
    clear h
    go_enter Tryd.func6, Tryd.ntmps6
    go_wp2
    go_ret2
    exact ⟨rfl, rfl⟩
set_option maxHeartbeats 1000000 in
theorem new_any (m : Nat) (w : World) (h : m ≤ 65536) : Calls Tryd.prog 6 #[.int .i64 (m : Int)] w fun e w' => ∃ p F, e = .returned (.tuple #[.pointer (some ⟨p, 0, none⟩), .int .i64 0]) ∧ Tb w' p m [] F ∧ (∀ k ∈ F, w.heap.size ≤ k) ∧ Below w.heap.size w w' := by
  have hmm := @run_makeMap Tryd.prog
  go_enter Tryd.func6, Tryd.ntmps6
  go_wp2
  go_ret2
  refine ⟨w.heap.size + 1, fp (w.heap.size + 1) w.heap.size (.slice none 0 0) (.slice none 0 0), rfl, ⟨w.heap.size, .slice none 0 0, .slice none 0 0, .map [], [], ⟨?_, ?_, World.ownsRow_nil _ _ _ _, World.ownsRow_nil _ _ _ _⟩, ⟨OkS.nil h, MapOf.nil, (fun x hx => by cases hx), (fun i => by simp [mem, isT, nm]), Nat.zero_le _⟩, rfl⟩, fun k hk => ?_, ?_⟩
  · have e : (w.alloc (Obj.map #[] 0)).heap.size = w.heap.size + 1 := by simp
    rw [← e]
    exact (MapKept.heap_alloc _ _).1
  · exact (((World.ownsMap_made w _ _ _).alloc _).mono (Nat.zero_le _))
  · simp [fp, Value.ownBlock] at hk
    omega
  · exact (((Below.refl _ _).alloc (Nat.le_refl _) _).alloc (by simp) _)
/-- How many names. -/
theorem Tm.c0 {w : World} {p m mb : Nat} {rs ks : Value} {D : DataW Unit} {l : List Rw} {ws : List Nat} (h : Tm w p m mb rs ks D l ws) : w.cell? ⟨p, 0, none⟩ = some (.int .i64 m) := by rw [cell_of_row w p 0 _ _ _ h.hp]; rfl
theorem Tm.c1 {w : World} {p m mb : Nat} {rs ks : Value} {D : DataW Unit} {l : List Rw} {ws : List Nat} (h : Tm w p m mb rs ks D l ws) : w.cell? ⟨p, 1, none⟩ = some (.map (some mb)) := by rw [cell_of_row w p 1 _ _ _ h.hp]; rfl
theorem Tm.c2 {w : World} {p m mb : Nat} {rs ks : Value} {D : DataW Unit} {l : List Rw} {ws : List Nat} (h : Tm w p m mb rs ks D l ws) : w.cell? ⟨p, 2, none⟩ = some rs := by rw [cell_of_row w p 2 _ _ _ h.hp]; rfl
theorem Tm.c3 {w : World} {p m mb : Nat} {rs ks : Value} {D : DataW Unit} {l : List Rw} {ws : List Nat} (h : Tm w p m mb rs ks D l ws) : w.cell? ⟨p, 3, none⟩ = some ks := by rw [cell_of_row w p 3 _ _ _ h.hp]; rfl
theorem Tm.fz {w : World} {p m mb : Nat} {rs ks : Value} {D : DataW Unit} {l : List Rw} {ws : List Nat} (h : Tm w p m mb rs ks D l ws) (j : Nat) : w.frozen? ⟨p, j, none⟩ = false := frozen_of_row w p j _ _ h.hp
set_option maxHeartbeats 1000000 in
theorem len_nil (w : World) : Calls Tryd.prog 13 #[.pointer none] w fun e w' => e = .returned (.int .i64 0) ∧ w' = w := by
  go_enter Tryd.func13, Tryd.ntmps13
  go_wp2
  go_ret
  exact ⟨rfl, rfl⟩
set_option maxHeartbeats 1000000 in
theorem len_any (p m : Nat) (l : List Rw) (F : List Nat) (w : World) (h : Tb w p m l F) : Calls Tryd.prog 13 #[.pointer (some ⟨p, 0, none⟩)] w fun e w' => e = .returned (.int .i64 (cnt l : Int)) ∧ w' = w := by
  obtain ⟨mb, rs, ks, D, ws, h1, h2, rfl⟩ := h
  have c1 := h1.c1
  have HM := hid h1.hm
  have HS := hid h2.mo.sz
  clear h1 h2
  go_enter Tryd.func13, Tryd.ntmps13
  go_wp2_with (at_len; refine wpList_len_own _ rfl _ 57 rfl 9 3 Tryd.underlying57 _ mb 65536 D rfl HM.out ?_)
  go_ret
  exact ⟨ret_int (by rw [HS.out]), rfl⟩
set_option maxHeartbeats 1000000 in
theorem span_nil (w : World) : Calls Tryd.prog 26 #[.pointer none] w fun e w' => e = .returned (.int .i64 0) ∧ w' = w := by
  go_enter Tryd.func26, Tryd.ntmps26
  go_wp2
  go_ret
  exact ⟨rfl, rfl⟩
theorem own_len {w : World} {base : Nat} {e : TypeId} {size n : Nat} {v : Value} {xs : List Value} (h : w.ownsRow base e size v n xs) : ∃ a cap, v = .slice a n cap := by
  rcases own_form h with ⟨rfl, rfl⟩ | ⟨g, cap, rfl, _⟩
  · exact ⟨none, 0, rfl⟩
  · exact ⟨_, cap, rfl⟩
set_option maxHeartbeats 1000000 in
theorem span_any (p m : Nat) (l : List Rw) (F : List Nat) (w : World) (h : Tb w p m l F) : Calls Tryd.prog 26 #[.pointer (some ⟨p, 0, none⟩)] w fun e w' => e = .returned (.int .i64 (l.length : Int)) ∧ w' = w := by
  obtain ⟨mb, rs, ks, D, ws, h1, h2, rfl⟩ := h
  have c2 := h1.c2
  obtain ⟨a, cap, rfl⟩ := own_len h1.hr
  clear h1 h2
  go_enter Tryd.func26, Tryd.ntmps26
  go_wp2
  go_ret
  exact ⟨rfl, rfl⟩
end Go.Proofs.YtdhjoimiejdgbabDoor.L
namespace Go.Proofs.YtdhjoimiejdgbabDoor.L
open Go.RowKit Bs Go.Maps
set_option linter.unusedVariables false
/-- The name stands in no slot. -/
def NoN {α : Type} (l : List (ByteArray × α)) (s : ByteArray) : Prop := ∀ i, isT l i = true → nm l i ≠ s
theorem there_or {α : Type} (l : List (ByteArray × α)) (s : ByteArray) : NoN l s ∨ ∃ i, isT l i = true ∧ nm l i = s := by
  by_cases h : ∃ i, isT l i = true ∧ nm l i = s
  · exact Or.inr h
  · exact Or.inl (fun i hi e => h ⟨i, hi, e⟩)
theorem MapOf.no {α : Type} {D : DataW Unit} {l : List (ByteArray × α)} (h : MapOf D l) {s : ByteArray} (hn : NoN l s) : Maps.has D (kS s) = false ∧ ∀ c : Int, D.atKey (kS s) (.lit (.int .i64 0)) = .lit (.int .i64 c) → c = 0 := by
  have e : Maps.has D (kS s) = false := by
    cases c : Maps.has D (kS s)
    · rfl
    · obtain ⟨i, hi, e⟩ := (h.has s).1 c
      exact absurd e (hn i hi)
  refine ⟨e, fun c hc => ?_⟩
  rw [Maps.atKey_of_not_has e] at hc
  injection hc with hc; injection hc with _ hc; exact hc.symm
theorem MapOf.yes {α : Type} {D : DataW Unit} {l : List (ByteArray × α)} (h : MapOf D l) {i : Nat} (hi : isT l i = true) : Maps.has D (kS (nm l i)) = true ∧ ∀ c : Int, D.atKey (kS (nm l i)) (.lit (.int .i64 0)) = .lit (.int .i64 c) → c = (i : Int) := by
  refine ⟨(h.has _).2 ⟨i, hi, rfl⟩, fun c hc => ?_⟩
  have := h.at_ i hi
  rw [hc] at this
  injection this with this; injection this with _ this
theorem maxLen_of {s : ByteArray} (h : badB s = false) : s.size ≤ maxLen := by
  unfold badB at h
  simp at h
  unfold maxLen
  omega
set_option maxHeartbeats 1000000 in
theorem sought_nil (s : ByteArray) (w : World) : Calls Tryd.prog 22 #[.pointer none, .string s] w fun e w' => e = .returned (.tuple #[.int .i64 0, .int .i64 1]) ∧ w' = w := by
  have C := hid (check_nil s w)
  go_enter Tryd.func22, Tryd.ntmps22
  go_wp2_with (go_at_call 20; refine C.out.mono ?_; rintro e w2 ⟨rfl, hww⟩; subst hww)
  go_ret2
  exact ⟨rfl, rfl⟩
set_option maxHeartbeats 1000000 in
theorem sought_bad (p : Nat) (s : ByteArray) (w : World) (hs : s.size ≤ maxLen) (h : badB s = true) : Calls Tryd.prog 22 #[.pointer (some ⟨p, 0, none⟩), .string s] w fun e w' => e = .returned (.tuple #[.int .i64 0, .int .i64 51]) ∧ w' = w := by
  have C := hid (check_bad p s w hs h)
  clear h
  go_enter Tryd.func22, Tryd.ntmps22
  go_wp2_with (go_at_call 20; refine C.out.mono ?_; rintro e w2 ⟨rfl, hww⟩; subst hww)
  go_ret2
  exact ⟨rfl, rfl⟩
set_option maxHeartbeats 1000000 in
theorem sought_no (p m : Nat) (l : List Rw) (F : List Nat) (s : ByteArray) (w : World) (h : Tb w p m l F) (hb : badB s = false) (hn : NoN l s) : Calls Tryd.prog 22 #[.pointer (some ⟨p, 0, none⟩), .string s] w fun e w' => e = .returned (.tuple #[.int .i64 0, .int .i64 54]) ∧ w' = w := by
  have C := hid (check_ok p s w hb)
  obtain ⟨mb, rs, ks, D, ws, h1, h2, rfl⟩ := h
  have c1 := h1.c1
  have HM := hid h1.hm
  obtain ⟨hh, hat⟩ := h2.mo.no hn
  have HAT := hid hat
  have HK := hid (keyS_of (maxLen_of hb))
  clear h1 h2 hat hn hb
  go_enter Tryd.func22, Tryd.ntmps22
  go_wp2_with (first
    | (go_at_call 20; refine C.out.mono ?_; rintro e w2 ⟨rfl, hww⟩; subst hww)
    | (at_lookup; refine wpList_lookup_own_ok_int _ rfl _ _ 57 rfl 9 3 .i64 keyS Tryd.underlying57 Tryd.underlying3 (zeroI _) mb 65536 D rfl HM.out _ _ rfl HK.out ?_; intro c hat hwc; obtain rfl := HAT.out c hat; clear hat hwc))
  go_ret2
  exact ⟨rfl, rfl⟩
set_option maxHeartbeats 1000000 in
theorem sought_yes (p m i : Nat) (l : List Rw) (F : List Nat) (s : ByteArray) (w : World) (h : Tb w p m l F) (hb : badB s = false) (hi : isT l i = true) (hs : nm l i = s) : Calls Tryd.prog 22 #[.pointer (some ⟨p, 0, none⟩), .string s] w fun e w' => e = .returned (.tuple #[.int .i64 (i : Int), .int .i64 0]) ∧ w' = w := by
  have C := hid (check_ok p s w hb)
  obtain ⟨mb, rs, ks, D, ws, h1, h2, rfl⟩ := h
  have c1 := h1.c1
  have HM := hid h1.hm
  obtain ⟨hh, hat⟩ := h2.mo.yes hi
  rw [hs] at hh hat
  have HAT := hid hat
  have HK := hid (keyS_of (maxLen_of hb))
  clear h1 h2 hat hb hi hs
  go_enter Tryd.func22, Tryd.ntmps22
  go_wp2_with (first
    | (go_at_call 20; refine C.out.mono ?_; rintro e w2 ⟨rfl, hww⟩; subst hww)
    | (at_lookup; refine wpList_lookup_own_ok_int _ rfl _ _ 57 rfl 9 3 .i64 keyS Tryd.underlying57 Tryd.underlying3 (zeroI _) mb 65536 D rfl HM.out _ _ rfl HK.out ?_; intro c hat hwc; obtain rfl := HAT.out c hat; clear hat hwc))
  go_ret2
  exact ⟨rfl, rfl⟩
/-- The value in a slot. -/
def vlu (l : List Rw) (i : Nat) : Int := (l[i]?.map (·.2)).getD 0
theorem vlu_at {l : List Rw} {i : Nat} (h : i < l.length) : vlu l i = (l[i]).2 := by unfold vlu; rw [List.getElem?_eq_getElem h]; rfl
/-- The cells of a row. -/
theorem Tm.rows {w : World} {p m mb : Nat} {rs ks : Value} {D : DataW Unit} {l : List Rw} {ws : List Nat} (h : Tm w p m mb rs ks D l ws) {i : Nat} (hi : i < l.length) : ∃ g cap, rs = .slice (some ⟨g, 0, none⟩) l.length cap ∧ g < w.heap.size ∧ w.cell? ⟨g, i * 2, none⟩ = some (.string (nm l i)) ∧ w.cell? ⟨g, i * 2 + 1, none⟩ = some (.int .i64 (vlu l i)) := by
  rcases own_form h.hr with ⟨rfl, h0⟩ | ⟨g, cap, rfl, _, _, hlt⟩
  · omega
  · refine ⟨g, cap, rfl, hlt, ?_, ?_⟩
    · have := h.hr.cells (g := g) rfl _ _ (cellsR_at0 l i hi)
      rw [Go.WideShapes.add_plain, ← nm_at hi] at this
      simpa using this
    · have := h.hr.cells (g := g) rfl _ _ (cellsR_at1 l i hi)
      rw [Go.WideShapes.add_plain, ← vlu_at hi] at this
      simpa using this
set_option maxHeartbeats 1000000 in
theorem find_nil (s : ByteArray) (w : World) : Calls Tryd.prog 9 #[.pointer none, .string s] w fun e w' => e = .returned (.tuple #[.int .i64 0, .int .i64 0, .bool false]) ∧ w' = w := by
  go_enter Tryd.func9, Tryd.ntmps9
  go_wp2
  go_ret3
  exact ⟨rfl, rfl⟩
set_option maxHeartbeats 1000000 in
theorem find_no (p m : Nat) (l : List Rw) (F : List Nat) (s : ByteArray) (w : World) (h : Tb w p m l F) (hs : s.size ≤ maxLen) (hn : NoN l s) : Calls Tryd.prog 9 #[.pointer (some ⟨p, 0, none⟩), .string s] w fun e w' => e = .returned (.tuple #[.int .i64 0, .int .i64 0, .bool false]) ∧ w' = w := by
  obtain ⟨mb, rs, ks, D, ws, h1, h2, rfl⟩ := h
  have c1 := h1.c1
  have HM := hid h1.hm
  obtain ⟨hh, hat⟩ := h2.mo.no hn
  have HAT := hid hat
  have HK := hid (keyS_of hs)
  clear h1 h2 hat hn hs
  go_enter Tryd.func9, Tryd.ntmps9
  go_wp2_with (at_lookup; refine wpList_lookup_own_ok_int _ rfl _ _ 57 rfl 9 3 .i64 keyS Tryd.underlying57 Tryd.underlying3 (zeroI _) mb 65536 D rfl HM.out _ _ rfl HK.out ?_; intro c hat hwc; obtain rfl := HAT.out c hat; clear hat hwc)
  go_ret3
  exact ⟨rfl, rfl⟩
set_option maxHeartbeats 1000000 in
theorem find_yes (p m i : Nat) (l : List Rw) (F : List Nat) (s : ByteArray) (w : World) (h : Tb w p m l F) (hi : isT l i = true) (hs : nm l i = s) : Calls Tryd.prog 9 #[.pointer (some ⟨p, 0, none⟩), .string s] w fun e w' => e = .returned (.tuple #[.int .i64 (i : Int), .int .i64 (vlu l i), .bool true]) ∧ ∃ n, w' = w.drewN n := by
  have hsz := h.ok.sz i
  have hle := Nat.le_trans h.ok.le h.ok.mm
  obtain ⟨mb, rs, ks, D, ws, h1, h2, rfl⟩ := h
  have c1 := h1.c1
  have c2 := h1.c2
  have hil := isT_lt hi
  obtain ⟨g, cap, rfl, hg, r0, r1⟩ := h1.rows hil
  have HM := hid h1.hm
  obtain ⟨hh, hat⟩ := h2.mo.yes hi
  rw [hs] at hh hat hsz r0
  have HAT := hid hat
  have HK := hid (keyS_of (show s.size ≤ maxLen by unfold maxLen; omega))
  clear h1 h2 hat hi hs hsz
  generalize l.length = L at *
  generalize vlu l i = v at *
  go_enter Tryd.func9, Tryd.ntmps9
  go_wp2_with (at_lookup; refine wpList_lookup_own_ok_int _ rfl _ _ 57 rfl 9 3 .i64 keyS Tryd.underlying57 Tryd.underlying3 (zeroI _) mb 65536 D rfl HM.out _ _ rfl HK.out ?_; intro c hat hwc; obtain rfl := HAT.out c hat; clear hat hwc)
  go_quiet (fail)
  go_wp2
  go_ret3
  exact ⟨rfl, _, rfl⟩
end Go.Proofs.YtdhjoimiejdgbabDoor.L
namespace Go.Proofs.YtdhjoimiejdgbabDoor.L
open Go.RowKit Bs Go.Maps
set_option linter.unusedVariables false
theorem pow_cast (b : Nat) : (2 : Int) ^ b = ((2 ^ b : Nat) : Int) := by simp
theorem pow_lt64 (b : Nat) (hb : b < 64) : 2 ^ b ≤ 9223372036854775808 ∧ 0 < 2 ^ b := by
  have := Nat.pow_le_pow_right (n := 2) (by decide) (show b ≤ 63 by omega)
  exact ⟨this, Nat.two_pow_pos b⟩
theorem idx_div (k : Nat) (h : k ≤ 65536) : IntKind.i64.wrap ((k : Int) / 64) = ((k / 64 : Nat) : Int) := by rw [IntKind.wrap_i64]; omega
theorem idx_mod (k : Nat) : (k : Int).tmod 64 = ((k % 64 : Nat) : Int) := by rw [Int.tmod_eq_emod_of_nonneg (by omega)]; omega
theorem wrap64_eq (z : Int) : wrap64 z = IntKind.i64.wrap z := by rw [IntKind.wrap_i64]; unfold wrap64; omega
theorem wrap_pow (r : Nat) (h : r < 64) : IntKind.u64.wrap (2 ^ r) = ((2 ^ r : Nat) : Int) := by
  have := pow_lt64 r h
  rw [IntKind.wrap_u64, pow_cast]; omega
theorem or_num (x r : Nat) (hx : x < 18446744073709551616) (hr : r < 64) : bits .or .u64 (x : Int) (IntKind.u64.wrap (2 ^ min r 64)) = ((x ||| 2 ^ r : Nat) : Int) := by
  have := pow_lt64 r hr
  rw [show min r 64 = r by omega, wrap_pow r hr, u64_or_nat x (2 ^ r) hx (by omega)]
theorem not_num3 (x r : Nat) (hx : x < 18446744073709551616) (hr : r < 64) : bits .andNot .u64 (x : Int) (IntKind.u64.wrap (2 ^ min r 64)) = ((anot x (2 ^ r) : Nat) : Int) := by
  have := pow_lt64 r hr
  rw [show min r 64 = r by omega, wrap_pow r hr, u64_andNot_nat x (2 ^ r) hx (by omega)]
  rfl
/-- The words with k put in, and with k taken out. -/
def addW (ws : List Nat) (k : Nat) : List Nat := ws.set (k / 64) (ws.getD (k / 64) 0 ||| 2 ^ (k % 64))
def delW (ws : List Nat) (k : Nat) : List Nat := ws.set (k / 64) (anot (ws.getD (k / 64) 0) (2 ^ (k % 64)))
theorem mem_addW (ws : List Nat) (k : Nat) (hk : k / 64 < ws.length) (i : Nat) : mem (addW ws k) i = (mem ws i || decide (i = k)) := by
  unfold addW
  rw [mem_set _ _ _ _ hk]
  split
  · rename_i h
    rw [Nat.testBit_or, Nat.testBit_two_pow]
    unfold mem
    rw [h]
    congr 1
    rw [decide_eq_decide]; omega
  · rename_i h
    have : i ≠ k := by intro e; subst e; exact h rfl
    simp [this]
theorem mem_delW (ws : List Nat) (k : Nat) (wd : Wd ws) (hk : k / 64 < ws.length) (i : Nat) : mem (delW ws k) i = (mem ws i && !decide (i = k)) := by
  have := pow_lt64 (k % 64) (by omega)
  unfold delW
  rw [mem_set _ _ _ _ hk]
  split
  · rename_i h
    rw [testBit_anot _ _ _ (by omega) (wd.getD _), Nat.testBit_two_pow]
    unfold mem
    rw [h]
    congr 2
    rw [decide_eq_decide]; omega
  · rename_i h
    have : i ≠ k := by intro e; subst e; exact h rfl
    simp [this]
theorem Wd.addW {ws : List Nat} (h : Wd ws) (k : Nat) : Wd (addW ws k) := h.set _ _ (or_lt _ _ (h.getD _) (by have := pow_lt64 (k % 64) (by omega); omega))
theorem Wd.delW {ws : List Nat} (h : Wd ws) (k : Nat) : Wd (delW ws k) := h.set _ _ (anot_lt _ _ (h.getD _))
theorem Wd.app {ws : List Nat} (h : Wd ws) : Wd (ws ++ [0]) := by
  intro x hx
  rcases List.mem_append.1 hx with h1 | h1
  · exact h x h1
  · rw [List.mem_singleton.1 h1]; decide
theorem mem_app0 (ws : List Nat) (i : Nat) : mem (ws ++ [0]) i = mem ws i := by
  have := mem_widW (ws.length + 1) ws i
  unfold widW at this
  rw [show ws.length + 1 - ws.length = 1 by omega] at this
  exact this
section
variable {w : World} {p m mb : Nat} {rs ks : Value} {D : DataW Unit} {l : List Rw} {ws : List Nat}
theorem Tm.drewN (h : Tm w p m mb rs ks D l ws) (n : Nat) : Tm (w.drewN n) p m mb rs ks D l ws := h.frame (fun _ _ => rfl)
theorem Tm.low (h : Tm w p m mb rs ks D l ws) {w' : World} (hb : Below w.heap.size w w') : Tm w' p m mb rs ks D l ws := h.frame (fun k hk => hb.block k (h.lt k hk))
theorem Tm.alloc (h : Tm w p m mb rs ks D l ws) (o : Obj) : Tm (w.alloc o) p m mb rs ks D l ws := h.low ((Below.refl _ _).alloc (Nat.le_refl _) _)
/-- Another row of words. -/
theorem Tm.growK (h : Tm w p m mb rs ks D l ws) {w2 : World} {v : Value} {ws' : List Nat} (hg : w.grownBy w2 ks.ownBlock) (ho : OwnK w2 v ws') (hl : v.ownBlock = ks.ownBlock ∨ v.ownBlock = some w.heap.size) :
    Tm (w2.setCell ⟨p, 3, none⟩ v) p m mb rs v D l ws' := by
  obtain ⟨a1, a2, a3⟩ := h.ap
  have hlt := h.lt
  have pl : p < w.heap.size := hlt p (by simp [fp])
  have ml : mb < w.heap.size := hlt mb (by simp [fp])
  have kp : some p ≠ ks.ownBlock := fun e => (a3 p e.symm).1 rfl
  have km : some mb ≠ ks.ownBlock := fun e => (a3 mb e.symm).2.1 rfl
  refine ⟨?_, ?_, ?_, ?_⟩
  · exact set_block v ((hg.block p pl kp).trans h.hp)
  · exact owns_stays h.hm ((set_other _ _ (fun e => a1 e.symm)).trans (hg.block mb ml km))
  · exact own_stays h.hr (fun g hgg => (set_other _ _ (a2 g hgg).1).trans (hg.block g (h.hr.lt g hgg).2 (fun e => (a2 g hgg).2.2 e.symm)))
  · exact own_stays ho (fun g hgg => set_other _ _ (fun e => by
      subst e
      rcases hl with c | c
      · rw [hgg] at c; exact kp c
      · rw [hgg] at c; injection c with c; omega))
/-- Another row of rows. -/
theorem Tm.growR (h : Tm w p m mb rs ks D l ws) {w2 : World} {v : Value} {l' : List Rw} (hg : w.grownBy w2 rs.ownBlock) (ho : OwnR w2 v l') (hl : v.ownBlock = rs.ownBlock ∨ v.ownBlock = some w.heap.size) :
    Tm (w2.setCell ⟨p, 2, none⟩ v) p m mb v ks D l' ws := by
  obtain ⟨a1, a2, a3⟩ := h.ap
  have hlt := h.lt
  have pl : p < w.heap.size := hlt p (by simp [fp])
  have ml : mb < w.heap.size := hlt mb (by simp [fp])
  have kp : some p ≠ rs.ownBlock := fun e => (a2 p e.symm).1 rfl
  have km : some mb ≠ rs.ownBlock := fun e => (a2 mb e.symm).2.1 rfl
  refine ⟨?_, ?_, ?_, ?_⟩
  · exact set_block v ((hg.block p pl kp).trans h.hp)
  · exact owns_stays h.hm ((set_other _ _ (fun e => a1 e.symm)).trans (hg.block mb ml km))
  · exact own_stays ho (fun g hgg => set_other _ _ (fun e => by
      subst e
      rcases hl with c | c
      · rw [hgg] at c; exact kp c
      · rw [hgg] at c; injection c with c; omega))
  · exact own_stays h.hk (fun g hgg => (set_other _ _ (a3 g hgg).1).trans (hg.block g (h.hk.lt g hgg).2 (fun e => (a3 g hgg).2.2 e.symm)))
/-- A word is written over. -/
theorem Tm.setK {g n cap : Nat} (h : Tm w p m mb rs (.slice (some ⟨g, 0, none⟩) n cap) D l ws) (j x : Nat) : Tm (w.setCell ⟨g, j, none⟩ (.int .u64 (x : Int))) p m mb rs (.slice (some ⟨g, 0, none⟩) n cap) D l (ws.set j x) := by
  obtain ⟨a1, a2, a3⟩ := h.ap
  obtain ⟨b1, b2, b3⟩ := a3 g rfl
  have hn : n = ws.length := by
    rcases own_form h.hk with ⟨e, _⟩ | ⟨g', c', e, _⟩
    · cases e
    · injection e
  refine ⟨(set_other _ _ (fun e => b1 e.symm)).trans h.hp, owns_stays h.hm (set_other _ _ (fun e => b2 e.symm)), own_stays h.hr (fun k hk => set_other _ _ (fun e => by subst e; exact b3 hk)), ?_⟩
  have hk := h.hk
  subst hn
  have := own_set hk j (.int .u64 (x : Int))
  rw [wrow_set] at this
  unfold OwnK
  rw [List.length_set]
  exact this
/-- A row is written over. -/
theorem Tm.setR {g n cap : Nat} (h : Tm w p m mb (.slice (some ⟨g, 0, none⟩) n cap) ks D l ws) (j : Nat) (x : Rw) (hj : j < l.length) : Tm ((w.setCell ⟨g, j * 2, none⟩ (.string x.1)).setCell ⟨g, j * 2 + 1, none⟩ (.int .i64 x.2)) p m mb (.slice (some ⟨g, 0, none⟩) n cap) ks D (l.set j x) ws := by
  obtain ⟨a1, a2, a3⟩ := h.ap
  obtain ⟨b1, b2, b3⟩ := a2 g rfl
  have hn : n = l.length := by
    rcases own_form h.hr with ⟨e, _⟩ | ⟨g', c', e, _⟩
    · cases e
    · injection e
  refine ⟨((set_other _ _ (fun e => b1 e.symm)).trans (set_other _ _ (fun e => b1 e.symm))).trans h.hp, owns_stays h.hm ((set_other _ _ (fun e => b2 e.symm)).trans (set_other _ _ (fun e => b2 e.symm))), ?_, own_stays h.hk (fun k hk => (set_other _ _ (fun e => by subst e; exact b3 hk)).trans (set_other _ _ (fun e => by subst e; exact b3 hk)))⟩
  have hr := h.hr
  subst hn
  have := own_set (own_set hr (j * 2) (.string x.1)) (j * 2 + 1) (.int .i64 x.2)
  rw [cellsR_set l j x hj] at this
  unfold OwnR
  rw [List.length_set]
  exact this
/-- A value is written over. -/
theorem Tm.setV {g n cap : Nat} (h : Tm w p m mb (.slice (some ⟨g, 0, none⟩) n cap) ks D l ws) (j : Nat) (v : Int) (hj : j < l.length) : Tm (w.setCell ⟨g, j * 2 + 1, none⟩ (.int .i64 v)) p m mb (.slice (some ⟨g, 0, none⟩) n cap) ks D (l.set j (nm l j, v)) ws := by
  obtain ⟨a1, a2, a3⟩ := h.ap
  obtain ⟨b1, b2, b3⟩ := a2 g rfl
  have hn : n = l.length := by
    rcases own_form h.hr with ⟨e, _⟩ | ⟨g', c', e, _⟩
    · cases e
    · injection e
  refine ⟨(set_other _ _ (fun e => b1 e.symm)).trans h.hp, owns_stays h.hm (set_other _ _ (fun e => b2 e.symm)), ?_, own_stays h.hk (fun k hk => set_other _ _ (fun e => by subst e; exact b3 hk))⟩
  have hr := h.hr
  subst hn
  have := own_set hr (j * 2 + 1) (.int .i64 v)
  rw [cellsR_set1 l j v hj] at this
  unfold OwnR
  rw [List.length_set]
  exact this
/-- Another map. -/
theorem Tm.map (h : Tm w p m mb rs ks D l ws) {w2 : World} {D' : DataW Unit} (hg : w.grownBy w2 (some mb)) (ho : Own1 w2 mb 65536 D') : Tm w2 p m mb rs ks D' l ws := by
  obtain ⟨a1, a2, a3⟩ := h.ap
  have hlt := h.lt
  exact ⟨(hg.block p (hlt p (by simp [fp])) (fun e => a1 (Option.some.inj e))).trans h.hp, ho, own_stays h.hr (fun g hgg => hg.block g (h.hr.lt g hgg).2 (fun e => (a2 g hgg).2.1 (Option.some.inj e))), own_stays h.hk (fun g hgg => hg.block g (h.hk.lt g hgg).2 (fun e => (a3 g hgg).2.1 (Option.some.inj e)))⟩
/-- The rows are cut. -/
theorem Tm.cutR {g n cap : Nat} (h : Tm w p m mb (.slice (some ⟨g, 0, none⟩) n cap) ks D l ws) (n' : Nat) (hn' : n' ≤ l.length) : Tm (w.setCell ⟨p, 2, none⟩ (.slice (some ⟨g, 0, none⟩) n' cap)) p m mb (.slice (some ⟨g, 0, none⟩) n' cap) ks D (l.take n') ws := by
  obtain ⟨a1, a2, a3⟩ := h.ap
  obtain ⟨b1, b2, b3⟩ := a2 g rfl
  have hn : n = l.length := by
    rcases own_form h.hr with ⟨e, _⟩ | ⟨g', c', e, _⟩
    · cases e
    · injection e
  refine ⟨set_block _ h.hp, owns_stays h.hm (set_other _ _ (fun e => a1 e.symm)), ?_, own_stays h.hk (fun k hk => set_other _ _ (a3 k hk).1)⟩
  have hr := h.hr
  subst hn
  have := own_cut hr n' hn'
  rw [cellsR_take] at this
  have hlen : (l.take n').length = n' := by rw [List.length_take]; omega
  unfold OwnR
  rw [hlen]
  exact own_stays this (fun k hk => set_other _ _ (fun e => by
    subst e
    simp [Value.ownBlock] at hk
    exact b1 hk))
end
end Go.Proofs.YtdhjoimiejdgbabDoor.L
