import Derived.Test.YtbplmglddinkdaaDoorXL
namespace Go.Proofs.YtbplmglddinkdaaDoor.L
open Go.RowKit Go.Shelf
set_option linter.unusedVariables false
/-- The document's marks, in its order. -/
def mkT : Nat → ByteArray
  | 0 => ⟨#[38, 38]⟩ | 1 => ⟨#[124, 124]⟩ | 2 => ⟨#[61, 61]⟩ | 3 => ⟨#[33, 61]⟩ | 4 => ⟨#[60, 61]⟩ | 5 => ⟨#[62, 61]⟩
  | 6 => ⟨#[33]⟩ | 7 => ⟨#[60]⟩ | 8 => ⟨#[62]⟩ | 9 => ⟨#[40]⟩ | 10 => ⟨#[41]⟩ | 11 => ⟨#[91]⟩ | 12 => ⟨#[93]⟩ | 13 => ⟨#[123]⟩ | 14 => ⟨#[125]⟩ | 15 => ⟨#[44]⟩ | 16 => ⟨#[46]⟩
  | _ => ⟨#[]⟩
theorem upto17 {j : Nat} (h : j ≤ 17) : j = 0 ∨ j = 1 ∨ j = 2 ∨ j = 3 ∨ j = 4 ∨ j = 5 ∨ j = 6 ∨ j = 7 ∨ j = 8 ∨ j = 9 ∨ j = 10 ∨ j = 11 ∨ j = 12 ∨ j = 13 ∨ j = 14 ∨ j = 15 ∨ j = 16 ∨ j = 17 := by omega
set_option maxHeartbeats 4000000 in
theorem rmarks_any (j : Nat) (hj : j ≤ 17) (w : World) : Calls Tryd.prog 36 #[.int .i64 (j : Int)] w fun e w' => e = .returned (.string (mkT j)) ∧ w' = w := by
  rcases upto17 hj with h | h | h | h | h | h | h | h | h | h | h | h | h | h | h | h | h | h <;> subst h <;>
  · go_enter Tryd.func36, Tryd.ntmps36
    go_wp2_with fail
    go_ret
    exact ⟨rfl, rfl⟩
def hit (s : ByteArray) (k : Nat) (m : ByteArray) : Prop := k + m.size ≤ s.size ∧ (s.extract k (k + m.size)).toList = m.toList
theorem ext1 (s : ByteArray) (k : Nat) (h : k + 1 ≤ s.size) : (s.extract k (k + 1)).toList = [bt s k] := by
  rw [ByteArray.toList_eq, ByteArray.data_extract]
  have h1 := drop_bt s k (by omega)
  simp at h1 ⊢
  rw [h1]
  rfl
theorem hit2 {s : ByteArray} {k : Nat} {a b : UInt8} : hit s k ⟨#[a, b]⟩ ↔ k + 2 ≤ s.size ∧ bt s k = a ∧ bt s (k + 1) = b := by
  unfold hit
  rw [show (⟨#[a, b]⟩ : ByteArray).size = 2 from rfl, show (⟨#[a, b]⟩ : ByteArray).toList = [a, b] by rw [ByteArray.toList_eq]]
  constructor
  · rintro ⟨h1, h2⟩
    rw [two_list s k h1] at h2
    simp at h2
    exact ⟨h1, h2⟩
  · rintro ⟨h1, h2, h3⟩
    exact ⟨h1, by rw [two_list s k h1, h2, h3]⟩
theorem hit1 {s : ByteArray} {k : Nat} {a : UInt8} : hit s k ⟨#[a]⟩ ↔ k + 1 ≤ s.size ∧ bt s k = a := by
  unfold hit
  rw [show (⟨#[a]⟩ : ByteArray).size = 1 from rfl, show (⟨#[a]⟩ : ByteArray).toList = [a] by rw [ByteArray.toList_eq]]
  constructor
  · rintro ⟨h1, h2⟩
    rw [ext1 s k h1] at h2
    simp at h2
    exact ⟨h1, h2⟩
  · rintro ⟨h1, h2⟩
    exact ⟨h1, by rw [ext1 s k h1, h2]⟩
theorem mk2_hit {s : ByteArray} {k : Nat} (h : mk2 (bt s k) (bt s (k + 1)) = true) : ∃ j, j < 6 ∧ hit s k (mkT j) := by
  have h2 := mk2_size h
  unfold mk2 at h
  simp only [Bool.or_eq_true, Bool.and_eq_true, beq_iff_eq] at h
  rcases h with ((((h | h) | h) | h) | h) | h
  · exact ⟨0, by decide, hit2.2 ⟨h2, h⟩⟩
  · exact ⟨1, by decide, hit2.2 ⟨h2, h⟩⟩
  · exact ⟨2, by decide, hit2.2 ⟨h2, h⟩⟩
  · exact ⟨3, by decide, hit2.2 ⟨h2, h⟩⟩
  · exact ⟨4, by decide, hit2.2 ⟨h2, h⟩⟩
  · exact ⟨5, by decide, hit2.2 ⟨h2, h⟩⟩
theorem mk1_cases (a : UInt8) (h : mk1 a = true) : a = 33 ∨ a = 60 ∨ a = 62 ∨ a = 40 ∨ a = 41 ∨ a = 91 ∨ a = 93 ∨ a = 123 ∨ a = 125 ∨ a = 44 ∨ a = 46 := by
  have := all_u8 (p := fun a => ! mk1 a || (a == 33 || a == 60 || a == 62 || a == 40 || a == 41 || a == 91 || a == 93 || a == 123 || a == 125 || a == 44 || a == 46)) (by decide +kernel) a
  rw [h] at this
  simpa [or_assoc] using this
theorem mk1_hit {s : ByteArray} {k : Nat} (hk : k < s.size) (h : mk1 (bt s k) = true) : ∃ j, j < 17 ∧ hit s k (mkT j) := by
  rcases mk1_cases _ h with h | h | h | h | h | h | h | h | h | h | h
  · exact ⟨6, by decide, hit1.2 ⟨hk, h⟩⟩
  · exact ⟨7, by decide, hit1.2 ⟨hk, h⟩⟩
  · exact ⟨8, by decide, hit1.2 ⟨hk, h⟩⟩
  · exact ⟨9, by decide, hit1.2 ⟨hk, h⟩⟩
  · exact ⟨10, by decide, hit1.2 ⟨hk, h⟩⟩
  · exact ⟨11, by decide, hit1.2 ⟨hk, h⟩⟩
  · exact ⟨12, by decide, hit1.2 ⟨hk, h⟩⟩
  · exact ⟨13, by decide, hit1.2 ⟨hk, h⟩⟩
  · exact ⟨14, by decide, hit1.2 ⟨hk, h⟩⟩
  · exact ⟨15, by decide, hit1.2 ⟨hk, h⟩⟩
  · exact ⟨16, by decide, hit1.2 ⟨hk, h⟩⟩
theorem mark_miss {s : ByteArray} {k : Nat} (hk : k < s.size) (h : ∀ j, j < 17 → ¬ hit s k (mkT j)) : markS s k = .bad 111 k := by
  unfold markS
  rw [if_neg (by intro e; obtain ⟨j, h1, h2⟩ := mk2_hit e; exact h j (by omega) h2), if_neg (by intro e; obtain ⟨j, h1, h2⟩ := mk1_hit hk e; exact h j h1 h2)]
theorem ext_eq {s m : ByteArray} {a b : Nat} (h : (s.extract a b).toList = m.toList) : s.extract a b = m := by
  rw [ByteArray.toList_eq, ByteArray.toList_eq] at h
  exact ByteArray.ext (Array.toList_inj.1 h)
theorem mark_hit1 {s : ByteArray} {k j : Nat} {a : UInt8} (hm : mkT j = ⟨#[a]⟩) (h6 : 6 ≤ j) (ha : mk1 a = true) (h : hit s k (mkT j)) (hn : ∀ i, i < j → ¬ hit s k (mkT i)) : markS s k = .ok ⟨4, mkT j, 0, k, k + (mkT j).size⟩ := by
  have he := ext_eq h.2
  have hb : bt s k = a := by rw [hm] at h; exact (hit1.1 h).2
  unfold markS
  rw [if_neg (by intro e; obtain ⟨i, h1, h2⟩ := mk2_hit e; exact hn i (by omega) h2), if_pos (by rw [hb]; exact ha)]
  rw [show (mkT j).size = 1 by rw [hm]; rfl] at he ⊢
  rw [he]
theorem mark_hit2 {s : ByteArray} {k j : Nat} {a b : UInt8} (hm : mkT j = ⟨#[a, b]⟩) (ha : mk2 a b = true) (h : hit s k (mkT j)) : markS s k = .ok ⟨4, mkT j, 0, k, k + (mkT j).size⟩ := by
  have he := ext_eq h.2
  have hb : bt s k = a ∧ bt s (k + 1) = b := by rw [hm] at h; exact (hit2.1 h).2
  unfold markS
  rw [if_pos (by rw [hb.1, hb.2]; exact ha)]
  rw [show (mkT j).size = 2 by rw [hm]; rfl] at he ⊢
  rw [he]
theorem mark_hit {s : ByteArray} {k j : Nat} (hj : j < 17) (h : hit s k (mkT j)) (hn : ∀ i, i < j → ¬ hit s k (mkT i)) : markS s k = .ok ⟨4, mkT j, 0, k, k + (mkT j).size⟩ := by
  rcases upto17 (Nat.le_of_lt hj) with e | e | e | e | e | e | e | e | e | e | e | e | e | e | e | e | e | e
  · subst e; exact mark_hit2 rfl (by decide) h
  · subst e; exact mark_hit2 rfl (by decide) h
  · subst e; exact mark_hit2 rfl (by decide) h
  · subst e; exact mark_hit2 rfl (by decide) h
  · subst e; exact mark_hit2 rfl (by decide) h
  · subst e; exact mark_hit2 rfl (by decide) h
  · subst e; exact mark_hit1 rfl (by decide) (by decide) h hn
  · subst e; exact mark_hit1 rfl (by decide) (by decide) h hn
  · subst e; exact mark_hit1 rfl (by decide) (by decide) h hn
  · subst e; exact mark_hit1 rfl (by decide) (by decide) h hn
  · subst e; exact mark_hit1 rfl (by decide) (by decide) h hn
  · subst e; exact mark_hit1 rfl (by decide) (by decide) h hn
  · subst e; exact mark_hit1 rfl (by decide) (by decide) h hn
  · subst e; exact mark_hit1 rfl (by decide) (by decide) h hn
  · subst e; exact mark_hit1 rfl (by decide) (by decide) h hn
  · subst e; exact mark_hit1 rfl (by decide) (by decide) h hn
  · subst e; exact mark_hit1 rfl (by decide) (by decide) h hn
  · omega
theorem mkT_ne {j : Nat} (h : j < 17) : 1 ≤ (mkT j).size ∧ (mkT j).size ≤ 2 ∧ (mkT j).toList ≠ [] := by
  rw [ByteArray.toList_eq]
  rcases upto17 (Nat.le_of_lt h) with e | e | e | e | e | e | e | e | e | e | e | e | e | e | e | e | e | e
  any_goals (subst e; decide)
  omega
end Go.Proofs.YtbplmglddinkdaaDoor.L
