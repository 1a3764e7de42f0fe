import Derived.Test.YtnclpdgbjefpmaaJf
namespace Go.Proofs.Ytnclpdgbjefpmaa.L
open Go.RowKit
set_option linter.unusedVariables false
set_option linter.unusedSimpArgs false
/-- The reader behind some reading: well, or with its fault. -/
def Js {α : Type} (g : Nat) (a : Option Addr) (cap : Nat) (B : List UInt8) (W : World) (r : DR α) (V : α → Prop) (E : Prop) : Prop :=
  (∃ x k, r = .ok (x, k) ∧ V x ∧ Dm g a cap B W k 0 0) ∨ ∃ c p k, r = .error (c, p) ∧ c ≠ 0 ∧ E ∧ Dm g a cap B W k c p
theorem Js.mv {α : Type} {g : Nat} {a : Option Addr} {cap : Nat} {B : List UInt8} {W W' : World} {r : DR α} {V : α → Prop} {E : Prop} (h : Js g a cap B W r V E) (f : ∀ k c p, Dm g a cap B W k c p → Dm g a cap B W' k c p) : Js g a cap B W' r V E := by
  rcases h with ⟨x, k, h1, h2, h3⟩ | ⟨c, p, k, h1, h2, h3, h4⟩
  · exact Or.inl ⟨x, k, h1, h2, f _ _ _ h3⟩
  · exact Or.inr ⟨c, p, k, h1, h2, h3, f _ _ _ h4⟩
theorem Js.dm {α : Type} {g : Nat} {a : Option Addr} {cap : Nat} {B : List UInt8} {W : World} {r : DR α} {V : α → Prop} {E : Prop} (h : Js g a cap B W r V E) : ∃ k c p, Dm g a cap B W k c p := by
  rcases h with ⟨x, k, h1, h2, h3⟩ | ⟨c, p, k, h1, h2, h3, h4⟩
  · exact ⟨_, _, _, h3⟩
  · exact ⟨_, _, _, h4⟩
/-- One reading more. -/
theorem js_step {α β γ : Type} {g : Nat} {a : Option Addr} {cap : Nat} {B : List UInt8} {W : World} {r : DR α} {V : α → Prop} {E : Prop} (h : Js g a cap B W r V E) {F : α → Nat → DR γ} {G : Nat → DR β} {F' : β → Nat → DR γ} (e : ∀ x k, V x → F x k = dbnd (G k) F') :
    dbnd r F = dbnd (dbnd r fun _ k => G k) F' := by
  rcases h with ⟨x, k, rfl, h2, h3⟩ | ⟨c, p, k, rfl, h2, h3, h4⟩
  · exact e x k h2
  · rfl
theorem dcnt_join {α : Type} {g : Nat} {a : Option Addr} {cap : Nat} {B : List UInt8} {W : World} {r : DR α} {V : α → Prop} {E : Prop} (h : Js g a cap B W r V E) (lo hi : Nat) (hhi : hi < 9223372036854775808) (hlo : lo < 9223372036854775808) :
    Calls Try.prog 30 #[.pointer (some ⟨g, 0, none⟩), .int .i64 (lo : Int), .int .i64 (hi : Int)] W fun e w' => ∃ n : Nat, e = .returned (.int .i64 (n : Int)) ∧ n ≤ hi ∧ Gb g W w' ∧ Js g a cap B w' (dbnd r fun _ k => cntD B k lo hi 9 0 k 0) (fun x => x = n) (n = 0) := by
  rcases h with ⟨x, k, rfl, h2, h3⟩ | ⟨c, p, k, rfl, h2, h3, h4⟩
  · refine (dcnt_any h3 lo hi hhi hlo).mono ?_
    intro e w' hd
    show ∃ n : Nat, _ ∧ _ ∧ _ ∧ Js g a cap B w' (cntD B k lo hi 9 0 k 0) _ _
    obtain ⟨q, hq⟩ : ∃ q, q = cntD B k lo hi 9 0 k 0 := ⟨_, rfl⟩
    rw [← hq] at hd ⊢
    cases q with
    | ok y =>
      obtain ⟨n, k'⟩ := y
      obtain ⟨v, rfl, rfl, d, gb⟩ := hd
      exact ⟨n, rfl, (cntD_le hq.symm).2, gb, Or.inl ⟨n, k', rfl, rfl, d⟩⟩
    | error y =>
      obtain ⟨c, p⟩ := y
      obtain ⟨v, k', rfl, rfl, hc, d, gb⟩ := hd
      exact ⟨0, rfl, Nat.zero_le _, gb, Or.inr ⟨c, p, k', rfl, hc, rfl, d⟩⟩
  · refine (dcnt_bad h4 h2 lo hi).mono ?_
    rintro e w' ⟨rfl, rfl⟩
    exact ⟨0, rfl, Nat.zero_le _, Gb.refl _ _, Or.inr ⟨c, p, k, rfl, h2, rfl, h4⟩⟩
theorem dsx_join {g : Nat} {a : Option Addr} {cap : Nat} {B : List UInt8} {W : World} {r : DR Nat} {n : Nat} (h : Js g a cap B W r (fun x => x = n) (n = 0)) (hn : n ≤ 4096) :
    Calls Try.prog 31 #[.pointer (some ⟨g, 0, none⟩), .int .i64 (n : Int)] W fun e w' => ∃ v l, e = .returned v ∧ w'.ownsRow W.heap.size 9 1 v (List.length l) (l.map Value.string) ∧ l.length ≤ n ∧ Gb g W w' ∧ Js g a cap B w' (dbnd r fun m k => (textC.ris ltS m .none).P B k) (fun x => x = l ∧ l.length = n) True := by
  rcases h with ⟨x, k, rfl, rfl, h3⟩ | ⟨c, p, k, rfl, h2, rfl, h4⟩
  · have hkB := h3.le
    refine (dsx_any h3 x hn).mono ?_
    intro e w' hd
    show ∃ v l, _ ∧ _ ∧ _ ∧ _ ∧ Js g a cap B w' ((textC.ris ltS x .none).P B k) _ _
    obtain ⟨q, hq⟩ : ∃ q, q = (textC.ris ltS x .none).P B k := ⟨_, rfl⟩
    rw [← hq] at hd ⊢
    cases q with
    | ok y =>
      obtain ⟨l, k'⟩ := y
      obtain ⟨v, rfl, ho, d, gb⟩ := hd
      have hl := ris_len hkB hq.symm
      exact ⟨v, l, rfl, ho, by omega, gb, Or.inl ⟨l, k', rfl, ⟨rfl, hl⟩, d⟩⟩
    | error y =>
      obtain ⟨c, p⟩ := y
      obtain ⟨v, k', rfl, ⟨l, hl, ho⟩, hc, d, gb⟩ := hd
      exact ⟨v, l, rfl, ho, hl, gb, Or.inr ⟨c, p, k', rfl, hc, trivial, d⟩⟩
  · refine (dsx_bad h4 h2).mono ?_
    rintro e w' ⟨v, rfl, ho, hb⟩
    exact ⟨v, [], rfl, ho, Nat.le_refl _, Gb.of hb, Or.inr ⟨c, p, k, rfl, h2, trivial, h4.low' hb⟩⟩
theorem dix_join {g : Nat} {a : Option Addr} {cap : Nat} {B : List UInt8} {W : World} {r : DR Nat} {n : Nat} (h : Js g a cap B W r (fun x => x = n) (n = 0)) (hn : n ≤ 4096) :
    Calls Try.prog 32 #[.pointer (some ⟨g, 0, none⟩), .int .i64 (n : Int)] W fun e w' => ∃ v l, e = .returned v ∧ w'.ownsRow W.heap.size 3 1 v (List.length l) (l.map (Value.int .i64)) ∧ l.length ≤ n ∧ Gb g W w' ∧ Js g a cap B w' (dbnd r fun m k => (sgnC.ris ltI m .none).P B k) (fun x => x = l ∧ l.length = n) True := by
  rcases h with ⟨x, k, rfl, rfl, h3⟩ | ⟨c, p, k, rfl, h2, rfl, h4⟩
  · have hkB := h3.le
    refine (dix_any h3 x hn).mono ?_
    intro e w' hd
    show ∃ v l, _ ∧ _ ∧ _ ∧ _ ∧ Js g a cap B w' ((sgnC.ris ltI x .none).P B k) _ _
    obtain ⟨q, hq⟩ : ∃ q, q = (sgnC.ris ltI x .none).P B k := ⟨_, rfl⟩
    rw [← hq] at hd ⊢
    cases q with
    | ok y =>
      obtain ⟨l, k'⟩ := y
      obtain ⟨v, rfl, ho, d, gb⟩ := hd
      have hl := ris_len hkB hq.symm
      exact ⟨v, l, rfl, ho, by omega, gb, Or.inl ⟨l, k', rfl, ⟨rfl, hl⟩, d⟩⟩
    | error y =>
      obtain ⟨c, p⟩ := y
      obtain ⟨v, k', rfl, ⟨l, hl, ho⟩, hc, d, gb⟩ := hd
      exact ⟨v, l, rfl, ho, hl, gb, Or.inr ⟨c, p, k', rfl, hc, trivial, d⟩⟩
  · refine (dix_bad h4 h2).mono ?_
    rintro e w' ⟨v, rfl, ho, hb⟩
    exact ⟨v, [], rfl, ho, Nat.le_refl _, Gb.of hb, Or.inr ⟨c, p, k, rfl, h2, trivial, h4.low' hb⟩⟩
end Go.Proofs.Ytnclpdgbjefpmaa.L
