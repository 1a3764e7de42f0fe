import Derived.Test.YtcldglilhhhdoaaGreatDoorPa7
namespace Go.Proofs.YtcldglilhhhdoaaGreatDoor.L
open Go.RowKit
set_option linter.unusedVariables false
set_option linter.unusedSimpArgs false
/-- The parser has gone on: the nest is d deeper, at least j parts more, at least k tokens more than parts, as many offsets as parts. -/
structure Gn (d j k : Nat) (s s' : PS) : Prop where
  ns : s'.ns = s.ns + d
  pl : s.ps.length + j ≤ s'.ps.length
  ps : s'.ps.length + s.nx + k ≤ s.ps.length + s'.nx
  os : s'.os.length + s.ps.length = s.os.length + s'.ps.length
theorem Gn.refl (s : PS) : Gn 0 0 0 s s := ⟨rfl, Nat.le_refl _, Nat.le_refl _, rfl⟩
theorem Gn.nx {d j k : Nat} {a b : PS} (h : Gn d j k a b) : a.nx + j + k ≤ b.nx := by have := h.pl; have := h.ps; omega
theorem gn_adv (s : PS) : Gn 0 0 1 s (adv s) := ⟨rfl, Nat.le_refl _, by simp only [adv]; omega, rfl⟩
theorem Gn.trans {d j k d' j' k' : Nat} {a b c : PS} (h : Gn d j k a b) (g : Gn d' j' k' b c) : Gn (d + d') (j + j') (k + k') a c :=
  ⟨by have := h.ns; have := g.ns; omega, by have := h.pl; have := g.pl; omega, by have := h.ps; have := g.ps; omega, by have := h.os; have := g.os; omega⟩
theorem Gn.weak {d j k j' k' : Nat} {a b : PS} (h : Gn d j k a b) (hj : j' ≤ j) (hk : k' ≤ k) : Gn d j' k' a b :=
  ⟨h.ns, by have := h.pl; omega, by have := h.ps; omega, h.os⟩
theorem Gn.shut {j k : Nat} {a b : PS} (h : Gn 1 j k a b) : Gn 0 j k a (shutP b) :=
  ⟨by have := h.ns; simp only [shutP]; omega, h.pl, h.ps, h.os⟩
theorem Gn.put {d j k : Nat} {a b c : PS} {p : Pt} {x r : Int} (h : Gn d j (k + 1) a b) (e : putP b p x = .ok (r, c)) : Gn d (j + 1) k a c := by
  unfold putP at e
  injection e with e
  injection e with _ e
  subst e
  exact ⟨h.ns, by have := h.pl; simp only [List.length_append, List.length_singleton]; omega, by have := h.ps; simp only [List.length_append, List.length_singleton]; omega, by have := h.os; simp only [List.length_append, List.length_singleton]; omega⟩
theorem bnd_inv {α β : Type} {r : PRes α} {f : α → PS → PRes β} {b : β} {s' : PS} (h : bnd r f = .ok (b, s')) : ∃ a s, r = .ok (a, s) ∧ f a s = .ok (b, s') := by
  match r, h with
  | .ok (a, s), h => exact ⟨a, s, rfl, h⟩
  | .error e, h => cases h
theorem gn_mark {T : List Tok} {s s' : PS} {m : List UInt8} {u : Unit} (h : markP T s m = .ok (u, s')) : Gn 0 0 1 s s' := by rw [mark_ok h]; exact gn_adv s
theorem gn_text {T : List Tok} {s s' : PS} {t : ByteArray} (h : textP T s = .ok (t, s')) : Gn 0 0 1 s s' := by rw [text_ok h]; exact gn_adv s
theorem open_ok {T : List Tok} {s s' : PS} {m : List UInt8} {u : Unit} (h : openP T s m = .ok (u, s')) : s' = { adv s with ns := s.ns + 1 } := by
  unfold openP at h
  split at h
  · split at h
    · cases h
    · injection h with h; injection h with _ h; exact h.symm
  · cases h
theorem gn_open {T : List Tok} {s s' : PS} {m : List UInt8} {u : Unit} (h : openP T s m = .ok (u, s')) : Gn 1 0 1 s s' := by
  rw [open_ok h]
  exact ⟨rfl, Nat.le_refl _, by simp only [adv]; omega, rfl⟩
theorem gn_named {T : List Tok} {s s' : PS} {t : ByteArray} (h : namedP T s = .ok (t, s')) : Gn 0 0 1 s s' := by
  rw [named_ok h]
  exact (((gn_adv s).trans (gn_adv _)).trans (gn_adv _)).weak (by omega) (by omega)
theorem gn_el {T : List Tok} {s s' : PS} {r : Int} (h : elP T s = .ok (r, s')) : Gn 0 1 0 s s' := by
  unfold elP at h
  split at h
  · exact (gn_adv s).put h
  · exact (gn_adv s).put h
theorem gn_mem {T : List Tok} {s s' : PS} {n : Nat} {r : Int} (h : memP T s n = .ok (r, s')) : Gn 0 1 0 s s' := by
  unfold memP at h
  split at h
  · split at h
    · cases h
    · exact gn_el h
  · cases h
theorem gn_mems {T : List Tok} : ∀ (n : Nat) {ks ks' : List Int} {s s' : PS}, memsP T n ks s = .ok (ks', s') → Gn 0 0 0 s s'
  | 0, ks, ks', s, s', h => by
    unfold memsP at h
    injection h with h; injection h with _ h; subst h
    exact Gn.refl _
  | n + 1, ks, ks', s, s', h => by
    unfold memsP at h
    split at h
    · obtain ⟨k, s1, h1, h2⟩ := bnd_inv h
      exact (((gn_adv s).trans (gn_mem h1)).trans (gn_mems n h2)).weak (by omega) (by omega)
    · injection h with h; injection h with _ h; subst h
      exact Gn.refl _
theorem gn_set0 {T : List Tok} {s s' : PS} {ks : List Int} (h : (if isM T s [125] = true then (.ok ([], s) : PRes (List Int)) else bnd (memP T s 0) fun k s2 => .ok ([k], s2)) = .ok (ks, s')) : Gn 0 0 0 s s' := by
  split at h
  · injection h with h; injection h with _ h; subst h
    exact Gn.refl _
  · obtain ⟨k, s1, h1, h2⟩ := bnd_inv h
    injection h2 with h2; injection h2 with _ h2; subst h2
    exact (gn_mem h1).weak (by omega) (by omega)
theorem gn_set {T : List Tok} {s s' : PS} {r : Int} (h : setP T s = .ok (r, s')) : Gn 0 1 0 s s' := by
  unfold setP at h
  obtain ⟨u1, s1, h1, h⟩ := bnd_inv h
  obtain ⟨ks, s2, h2, h⟩ := bnd_inv h
  obtain ⟨ks', s3, h3, h⟩ := bnd_inv h
  obtain ⟨u4, s4, h4, h⟩ := bnd_inv h
  exact ((((gn_mark h1).trans (gn_set0 h2)).trans (gn_mems _ h3)).trans (gn_mark h4) |>.weak (Nat.le_refl _) (by omega) : Gn 0 0 1 s s4).put h
theorem gn_field {T : List Tok} {s s' : PS} {r : Int} (h : fieldP T s = .ok (r, s')) : Gn 0 0 1 s s' := by
  unfold fieldP at h
  split at h
  · cases h
  · injection h with h; injection h with _ h; subst h
    exact gn_adv s
theorem gn_who {T : List Tok} {s s' : PS} {side r : Int} (h : whoP T s side = .ok (r, s')) : Gn 0 1 0 s s' := by
  unfold whoP at h
  split at h
  · obtain ⟨t, s1, h1, h⟩ := bnd_inv h
    obtain ⟨u, s2, h2, h⟩ := bnd_inv h
    exact (((((gn_adv s).trans (gn_adv _)).trans (gn_text h1)).trans (gn_mark h2)).weak (Nat.le_refl _) (by omega) : Gn 0 0 1 s s2).put h
  · obtain ⟨u, s1, h1, h⟩ := bnd_inv h
    obtain ⟨k, s2, h2, h⟩ := bnd_inv h
    have g := ((gn_adv s).trans (gn_mark h1)).trans (gn_field h2)
    split at h
    · obtain ⟨t, s3, h3, h⟩ := bnd_inv h
      exact ((g.trans (gn_named h3)).weak (Nat.le_refl _) (by omega) : Gn 0 0 1 s s3).put h
    · exact (g.weak (Nat.le_refl _) (by omega) : Gn 0 0 1 s s2).put h
def Gone (f : PS → PRes Int) : Prop := ∀ s k s', f s = .ok (k, s') → Gn 0 1 0 s s'
theorem gn_rows {T : List Tok} {one : PS → PRes Int} {m : List UInt8} (h1 : Gone one) : ∀ (n : Nat) {ks ks' : List Int} {s s' : PS}, rowsP T one m n ks s = .ok (ks', s') → ks.length ≤ ks'.length ∧ Gn 0 0 (ks'.length - ks.length) s s'
  | 0, ks, ks', s, s', h => by
    unfold rowsP at h
    injection h with h; injection h with h0 h; subst h; subst h0
    exact ⟨Nat.le_refl _, (Gn.refl _).weak (by omega) (by omega)⟩
  | n + 1, ks, ks', s, s', h => by
    unfold rowsP at h
    split at h
    · obtain ⟨k, s1, h2, h3⟩ := bnd_inv h
      have ⟨i1, i2⟩ := gn_rows h1 n h3
      simp only [List.length_append, List.length_singleton] at i1 i2
      exact ⟨by omega, (((gn_adv s).trans (h1 _ _ _ h2)).trans i2).weak (by omega) (by omega)⟩
    · injection h with h; injection h with h0 h; subst h; subst h0
      exact ⟨Nat.le_refl _, (Gn.refl _).weak (by omega) (by omega)⟩
theorem gn_row {T : List Tok} {one : PS → PRes Int} {kd : Int} {m : List UInt8} (h1 : Gone one) : Gone (rowP T one kd m) := by
  intro s k s' h
  unfold rowP at h
  obtain ⟨k0, s1, h2, h⟩ := bnd_inv h
  obtain ⟨ks, s2, h3, h⟩ := bnd_inv h
  have ⟨i1, i2⟩ := gn_rows h1 _ h3
  have i0 := h1 _ _ _ h2
  split at h
  · injection h with h; injection h with _ h; subst h
    exact (i0.trans i2).weak (by omega) (by omega)
  · rename_i hne
    simp only [List.length_singleton] at i1 i2
    exact (((i0.trans i2).weak (Nat.le_refl _) (by omega) : Gn 0 1 1 s s2).put h).weak (by omega) (by omega)
theorem gn_with {T : List Tok} {α : Type} {inner : PS → PRes α} {d : Nat} {s s' : PS} {a : α} (hi : ∀ s a s', inner s = .ok (a, s') → Gn 0 d 0 s s') (h : withP T inner s = .ok (a, s')) : Gn 0 d 2 s s' := by
  unfold withP at h
  obtain ⟨u, s1, h1, h⟩ := bnd_inv h
  obtain ⟨k, s2, h2, h⟩ := bnd_inv h
  obtain ⟨u3, s3, h3, h⟩ := bnd_inv h
  injection h with h; injection h with _ h; subst h
  exact ((((gn_open h1).trans (hi _ _ _ h2)).trans (gn_mark h3)).weak (by omega) (by omega) : Gn 1 d 2 s s3).shut
theorem gn_sel {T : List Tok} {ex : PS → PRes Int} {kd : Int} (h1 : Gone ex) : Gone (selP T ex kd) := by
  intro s k s' h
  unfold selP at h
  obtain ⟨q, s5, h2, h⟩ := bnd_inv h
  have hi := gn_with (d := 1) (fun s a s' h => by
    obtain ⟨t, s2, i1, h⟩ := bnd_inv h
    obtain ⟨u, s3, i2, h⟩ := bnd_inv h
    obtain ⟨r, s4, i3, h⟩ := bnd_inv h
    injection h with h; injection h with _ h; subst h
    exact (((gn_text i1).trans (gn_mark i2)).trans (h1 _ _ _ i3)).weak (by omega) (by omega)) h2
  exact ((((gn_adv s).trans hi).weak (by omega) (by omega) : Gn 0 1 1 s s5).put h).weak (by omega) (by omega)
theorem gn_neg {T : List Tok} {un : PS → PRes Int} (h1 : Gone un) : Gone (negP T un) := by
  intro s k s' h
  unfold negP at h
  obtain ⟨u, s1, h2, h⟩ := bnd_inv h
  obtain ⟨r, s2, h3, h⟩ := bnd_inv h
  exact ((((gn_open h2).trans (h1 _ _ _ h3)).weak (by omega) (by omega) : Gn 1 1 1 s s2).shut.put h).weak (by omega) (by omega)
theorem gn_comp {T : List Tok} {te : PS → PRes Int} (h1 : Gone te) : Gone (compP T te) := by
  intro s k s' h
  unfold compP at h
  obtain ⟨l, s1, h2, h⟩ := bnd_inv h
  split at h
  · cases h
  · obtain ⟨r, s2, h3, h⟩ := bnd_inv h
    exact (((((h1 _ _ _ h2).trans (gn_adv _)).trans (h1 _ _ _ h3)).weak (by omega) (by omega) : Gn 0 1 1 s s2).put h).weak (by omega) (by omega)
theorem gn_const {T : List Tok} {s s' : PS} {k r : Int} (h : constP T s k = .ok (r, s')) : Gn 0 1 0 s s' := by
  unfold constP at h
  exact (gn_adv s).put h
theorem gn_tol {T : List Tok} {s s' : PS} {r : Int} (h : tolP T s = .ok (r, s')) : Gn 0 1 0 s s' := by
  unfold tolP at h
  obtain ⟨t, s1, h1, h⟩ := bnd_inv h
  exact (((gn_adv s).trans (gn_named h1)).weak (Nat.le_refl _) (by omega) : Gn 0 0 1 s s1).put h
theorem gn_atom {T : List Tok} {ex te : PS → PRes Int} (h1 : Gone ex) (h2 : Gone te) : Gone (atomP T ex te) := by
  intro s k s' h
  unfold atomP at h
  split at h
  · split at h
    · exact gn_const h
    · split at h
      · exact gn_const h
      · split at h
        · exact gn_sel h1 _ _ _ h
        · split at h
          · exact gn_sel h1 _ _ _ h
          · split at h
            · exact gn_tol h
            · exact gn_comp h2 _ _ _ h
  · exact gn_comp h2 _ _ _ h
theorem gn_word {T : List Tok} {ex te : PS → PRes Int} (h1 : Gone ex) (h2 : Gone te) : Gone (wordP T ex te) := by
  intro s k s' h
  unfold wordP at h
  split at h
  · exact gn_who h
  · split at h
    · exact gn_who h
    · split at h
      · exact gn_who h
      · split at h
        · obtain ⟨r, s1, h3, h⟩ := bnd_inv h
          exact ((((gn_adv s).trans (gn_with h2 h3)).weak (by omega) (by omega) : Gn 0 1 1 s s1).put h).weak (by omega) (by omega)
        · split at h
          · exact gn_sel h1 _ _ _ h
          · cases h
theorem gn_unit {T : List Tok} {ex un te : PS → PRes Int} (h1 : Gone ex) (h2 : Gone un) (h3 : Gone te) : Gone (unitP T ex un te) := by
  intro s k s' h
  unfold unitP at h
  split at h
  · exact gn_neg h2 _ _ _ h
  · split at h
    · exact (gn_with h1 h).weak (by omega) (by omega)
    · exact gn_atom h1 h3 _ _ _ h
theorem gn_term {T : List Tok} {ex te : PS → PRes Int} (h1 : Gone ex) (h2 : Gone te) : Gone (termP T ex te) := by
  intro s k s' h
  unfold termP at h
  split at h
  · exact gn_el h
  · split at h
    · exact gn_set h
    · split at h
      · exact gn_word h1 h2 _ _ _ h
      · cases h
/-- Each production goes on. -/
theorem gn_gr {T : List Tok} : ∀ (n : Nat) (g : Gr), Gone (gr T n g)
  | 0, g => fun s k s' h => by unfold gr at h; cases h
  | n + 1, .expr => fun s k s' h => by unfold gr at h; exact gn_row (gn_gr n _) _ _ _ h
  | n + 1, .conj => fun s k s' h => by unfold gr at h; exact gn_row (gn_gr n _) _ _ _ h
  | n + 1, .unit => fun s k s' h => by unfold gr at h; exact gn_unit (gn_gr n _) (gn_gr n _) (gn_gr n _) _ _ _ h
  | n + 1, .term => fun s k s' h => by unfold gr at h; exact gn_term (gn_gr n _) (gn_gr n _) _ _ _ h
end Go.Proofs.YtcldglilhhhdoaaGreatDoor.L
