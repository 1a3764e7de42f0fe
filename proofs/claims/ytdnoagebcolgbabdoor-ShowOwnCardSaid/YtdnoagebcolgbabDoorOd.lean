import Derived.Test.YtdnoagebcolgbabDoorIc
import Derived.Test.YtdnoagebcolgbabDoorHP
namespace Go.Proofs.YtdnoagebcolgbabDoor.L
open Go.RowKit Go.Shelf
set_option linter.unusedVariables false
theorem fv_ne (N : Nat) : fv N ≠ .nilIface := fun h => by cases h
theorem err_two {T : List Pt} {B c i : Nat} {W : World} {ev : Value} (h : ErrR T B W ev) (k : Res T c i) : (c = 0 ∧ ev = .nilIface) ∨ (c ≠ 0 ∧ ∃ N, ev = fv N) := by
  rcases h with ⟨rfl, h⟩ | ⟨N, c', i', rfl, _, _, h, h0⟩
  · exact Or.inl ⟨(res_one k h).1, rfl⟩
  · exact Or.inr ⟨by rw [(res_one k h).1]; exact h0, N, rfl⟩
theorem nst_two {T : List Pt} {B c i : Nat} {W : World} {ev : Value} {m : Int} (h : ErrR T B W ev) (hm : (ev ≠ .nilIface ∧ m = 0) ∨ (ev = .nilIface ∧ NestR T m)) (k : Res T c i) : (c = 0 ∧ ev = .nilIface ∧ NestR T m) ∨ (c ≠ 0 ∧ (∃ N, ev = fv N) ∧ m = 0) := by
  rcases err_two h k with ⟨a, rfl⟩ | ⟨a, N, rfl⟩
  · rcases hm with ⟨h1, _⟩ | ⟨_, h1⟩
    · exact absurd rfl h1
    · exact Or.inl ⟨a, rfl, h1⟩
  · rcases hm with ⟨_, h1⟩ | ⟨h1, _⟩
    · exact Or.inr ⟨a, ⟨N, rfl⟩, h1⟩
    · exact absurd h1 (fv_ne N)
theorem txt_two {T : List Pt} {B c i : Nat} {W : World} {ev : Value} {s : ByteArray} (h : TxR T B W s ev) (k : Res T c i) :
    (c = 0 ∧ Shrt T T.length ∧ ev = .nilIface ∧ s = S ((txs T T.length).getD (T.length - 1) [])) ∨ (c = 0 ∧ ¬ Shrt T T.length ∧ (∃ N, ev = fv N) ∧ s = ⟨#[]⟩) ∨ (c ≠ 0 ∧ (∃ N, ev = fv N) ∧ s = ⟨#[]⟩) := by
  rcases h with ⟨he, hne, rfl⟩ | ⟨hr, hs, rfl, rfl⟩ | ⟨hr, hs, rfl, N, rfl, _, _⟩
  · rcases err_two he k with ⟨_, e⟩ | ⟨a, N, e⟩
    · exact absurd e hne
    · exact Or.inr (Or.inr ⟨a, ⟨N, e⟩, rfl⟩)
  · exact Or.inl ⟨(res_one k hr).1, hs, rfl, rfl⟩
  · exact Or.inr (Or.inl ⟨(res_one k hr).1, hs, ⟨N, rfl⟩, rfl⟩)
theorem own_uni {T : List Pt} {B1 B2 B3 B4 B5 B6 c i : Nat} {W1 W2 W3 W4 W5 W6 : World} {e1 f1 g1 e2 f2 g2 : Value} {n1 n2 : Int} {s1 s2 : ByteArray} (k : Res T c i)
    (h1 : ErrR T B1 W1 e1) (h2 : ErrR T B2 W2 f1) (m1 : (f1 ≠ .nilIface ∧ n1 = 0) ∨ (f1 = .nilIface ∧ NestR T n1)) (t1 : TxR T B3 W3 s1 g1)
    (h4 : ErrR T B4 W4 e2) (h5 : ErrR T B5 W5 f2) (m2 : (f2 ≠ .nilIface ∧ n2 = 0) ∨ (f2 = .nilIface ∧ NestR T n2)) (t2 : TxR T B6 W6 s2 g2) :
    n2 = n1 ∧ s2 = s1 ∧ ((c = 0 ∧ e1 = .nilIface ∧ f1 = .nilIface ∧ e2 = .nilIface ∧ f2 = .nilIface ∧ ((g1 = .nilIface ∧ g2 = .nilIface) ∨ (∃ N N', g1 = fv N ∧ g2 = fv N'))) ∨
      (c ≠ 0 ∧ ∃ N1 N2 N3 N4 N5 N6, e1 = fv N1 ∧ f1 = fv N2 ∧ g1 = fv N3 ∧ e2 = fv N4 ∧ f2 = fv N5 ∧ g2 = fv N6)) := by
  by_cases hc : c = 0
  · have a1 := (err_two h1 k).resolve_right (fun h => h.1 hc)
    have a2 := (nst_two h2 m1 k).resolve_right (fun h => h.1 hc)
    have a4 := (err_two h4 k).resolve_right (fun h => h.1 hc)
    have a5 := (nst_two h5 m2 k).resolve_right (fun h => h.1 hc)
    refine ⟨a5.2.2.one a2.2.2, ?_⟩
    rcases txt_two t1 k with ⟨_, x1, x2, x3⟩ | ⟨_, x1, ⟨N, x2⟩, x3⟩ | ⟨x, _⟩
    · rcases txt_two t2 k with ⟨_, y1, y2, y3⟩ | ⟨_, y1, _⟩ | ⟨y, _⟩
      · exact ⟨by rw [x3, y3], Or.inl ⟨hc, a1.2, a2.2.1, a4.2, a5.2.1, Or.inl ⟨x2, y2⟩⟩⟩
      · exact absurd x1 y1
      · exact absurd hc y
    · rcases txt_two t2 k with ⟨_, y1, _⟩ | ⟨_, y1, ⟨N', y2⟩, y3⟩ | ⟨y, _⟩
      · exact absurd y1 x1
      · exact ⟨by rw [x3, y3], Or.inl ⟨hc, a1.2, a2.2.1, a4.2, a5.2.1, Or.inr ⟨N, N', x2, y2⟩⟩⟩
      · exact absurd hc y
    · exact absurd hc x
  · obtain ⟨_, N1, a1⟩ := (err_two h1 k).resolve_left (fun h => hc h.1)
    obtain ⟨_, ⟨N2, a2⟩, b2⟩ := (nst_two h2 m1 k).resolve_left (fun h => hc h.1)
    obtain ⟨_, N4, a4⟩ := (err_two h4 k).resolve_left (fun h => hc h.1)
    obtain ⟨_, ⟨N5, a5⟩, b5⟩ := (nst_two h5 m2 k).resolve_left (fun h => hc h.1)
    obtain ⟨_, ⟨N3, a3⟩, b3⟩ := ((txt_two t1 k).resolve_left (fun h => hc h.1)).resolve_left (fun h => hc h.1)
    obtain ⟨_, ⟨N6, a6⟩, b6⟩ := ((txt_two t2 k).resolve_left (fun h => hc h.1)).resolve_left (fun h => hc h.1)
    exact ⟨by rw [b2, b5], by rw [b3, b6], Or.inr ⟨hc, N1, N2, N3, N4, N5, N6, a1, a2, a3, a4, a5, a6⟩⟩
end Go.Proofs.YtdnoagebcolgbabDoor.L
