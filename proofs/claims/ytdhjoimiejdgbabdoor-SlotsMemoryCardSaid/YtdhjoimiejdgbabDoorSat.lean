import Derived.Test.YtdhjoimiejdgbabDoorMgJ
namespace Go.Proofs.YtdhjoimiejdgbabDoor.L
open Go.RowKit Bs Go.Maps
set_option linter.unusedVariables false
set_option maxHeartbeats 1000000 in
theorem at_nil (i : Int) (w : World) : Calls Tryd.prog 14 #[.pointer none, .int .i64 i] w fun e w' => e = .returned (.tuple #[.string ByteArray.empty, .int .i64 0, .bool false]) ∧ w' = w := by
  by_cases h : i < 0
  · go_enter Tryd.func14, Tryd.ntmps14
    go_wp2_with fail
    go_ret3
    exact ⟨rfl, rfl⟩
  · have h' : 0 ≤ i := by omega
    have S := hid (span_nil w)
    go_enter Tryd.func14, Tryd.ntmps14
    go_wp2_with (go_at_call 26; refine S.out.mono ?_; rintro e w2 ⟨rfl, hww⟩; subst hww)
    go_ret3
    exact ⟨rfl, rfl⟩
/-- No name stands in the slot. -/
def NoS (l : List Rw) (i : Int) : Prop := ∀ j : Nat, i = j → isT l j = false
theorem slot_or (l : List Rw) (i : Int) : NoS l i ∨ ∃ j : Nat, i = j ∧ isT l j = true := by
  by_cases h : ∃ j : Nat, i = j ∧ isT l j = true
  · exact Or.inr h
  · left
    intro j hj
    cases e : isT l j
    · rfl
    · exact absurd ⟨j, hj, e⟩ h
set_option maxHeartbeats 2000000 in
theorem at_no (p m : Nat) (l : List Rw) (F : List Nat) (i : Int) (w : World) (h : Tb w p m l F) (hi : NoS l i) : Calls Tryd.prog 14 #[.pointer (some ⟨p, 0, none⟩), .int .i64 i] w fun e w' => e = .returned (.tuple #[.string ByteArray.empty, .int .i64 0, .bool false]) ∧ w' = w := by
  have S := hid (span_any p m l F w h)
  by_cases h0 : i < 0
  · clear hi h
    go_enter Tryd.func14, Tryd.ntmps14
    go_wp2_with fail
    go_ret3
    exact ⟨rfl, rfl⟩
  · obtain ⟨j, rfl⟩ : ∃ j : Nat, i = j := ⟨i.toNat, by omega⟩
    have hj := hi j rfl
    have hle := Nat.le_trans h.ok.le h.ok.mm
    obtain ⟨mb, rs, ks, D, ws, h1, h2, rfl⟩ := h
    by_cases hl : j < l.length
    · obtain ⟨g, cap, rfl, hg, r0, r1⟩ := h1.rows hl
      have c2 := h1.c2
      have en : nm l j = ⟨#[]⟩ := isT_no.1 hj
      rw [en] at r0
      clear h1 h2 hi hj en r1
      generalize l.length = L at *
      go_enter Tryd.func14, Tryd.ntmps14
      go_wp2_with (go_at_call 26; refine S.out.mono ?_; rintro e w2 ⟨rfl, hww⟩; replace hww := hww.symm; subst hww)
      go_ret3
      exact ⟨rfl, rfl⟩
    · clear h1 h2 hi hj
      generalize l.length = L at *
      have hl' : L ≤ j := by omega
      go_enter Tryd.func14, Tryd.ntmps14
      go_wp2_with (go_at_call 26; refine S.out.mono ?_; rintro e w2 ⟨rfl, hww⟩; replace hww := hww.symm; subst hww)
      go_ret3
      exact ⟨rfl, rfl⟩
set_option maxHeartbeats 2000000 in
theorem at_yes (p m j : Nat) (l : List Rw) (F : List Nat) (w : World) (h : Tb w p m l F) (hj : isT l j = true) : Calls Tryd.prog 14 #[.pointer (some ⟨p, 0, none⟩), .int .i64 (j : Int)] w fun e w' => e = .returned (.tuple #[.string (nm l j), .int .i64 (vlu l j), .bool true]) ∧ ∃ n, w' = w.drewN n := by
  have S := hid (span_any p m l F w h)
  have hle := Nat.le_trans h.ok.le h.ok.mm
  obtain ⟨mb, rs, ks, D, ws, h1, h2, rfl⟩ := h
  have hl := isT_lt hj
  obtain ⟨g, cap, rfl, hg, r0, r1⟩ := h1.rows hl
  have c2 := h1.c2
  have en : ((nm l j).toList == []) = false := by rw [nil_size]; simpa using isT_iff.1 hj
  clear h1 h2 hj
  generalize l.length = L at *
  generalize nm l j = s at *
  generalize vlu l j = v at *
  go_enter Tryd.func14, Tryd.ntmps14
  go_wp2_with (go_at_call 26; refine S.out.mono ?_; rintro e w2 ⟨rfl, hww⟩; replace hww := hww.symm; subst hww)
  go_quiet (fail)
  go_wp2
  go_ret3
  exact ⟨rfl, _, rfl⟩
end Go.Proofs.YtdhjoimiejdgbabDoor.L
