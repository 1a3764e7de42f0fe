import Derived.Test.YtcldglilhhhdoaaGreatDoorMgAQ
namespace Go.Proofs.YtcldglilhhhdoaaGreatDoor.L
open Go.RowKit Go.Shelf
set_option linter.unusedVariables false
set_option linter.unusedSimpArgs false
theorem isM_tok {T : List Tok} {s : PS} {m : List UInt8} (h : isM T s m = true) : (tk T s.nx).kind = 4 ∧ (tk T s.nx).text.toList = m := by
  unfold isM at h
  simpa using h
theorem open_tok {T : List Tok} {s s' : PS} {m : List UInt8} {u : Unit} (e : openP T s m = .ok (u, s')) : (tk T s.nx).kind = 4 ∧ (tk T s.nx).text.toList = m := by
  unfold openP at e
  split at e
  · rename_i h1
    exact isM_tok h1
  · cases e
section
variable {T : List Tok}
theorem fo_rows {one : PS → PRes Int} {m : List UInt8} (h1 : Fo T one) : ∀ (n : Nat) {ks ks' : List Int} {s s' : PS} {fr : List Int}, Gs T (fr ++ ks) s → rowsP T one m n ks s = .ok (ks', s') → Gs T (fr ++ ks') s' ∧ ks.length ≤ ks'.length ∧ (ks'.length ≠ ks.length → isM T s m = true)
  | 0, ks, ks', s, s', fr, h, e => by
    unfold rowsP at e
    injection e with e; injection e with e1 e2; subst e1; subst e2
    exact ⟨h, Nat.le_refl _, fun hn => absurd rfl hn⟩
  | n + 1, ks, ks', s, s', fr, h, e => by
    unfold rowsP at e
    split at e
    · rename_i hm
      obtain ⟨k, s1, e1, e2⟩ := bnd_inv e
      have h2 := h1 _ _ _ _ (gs_adv h) e1
      obtain ⟨g1, g2, _⟩ := fo_rows h1 n (by rw [← List.append_assoc]; exact h2) e2
      exact ⟨g1, by simp at g2; omega, fun _ => hm⟩
    · injection e with e; injection e with e1 e2; subst e1; subst e2
      exact ⟨h, Nat.le_refl _, fun hn => absurd rfl hn⟩
theorem rows_head {one : PS → PRes Int} {m : List UInt8} : ∀ (n : Nat) {k0 : Int} {ks ks' : List Int} {s s' : PS}, rowsP T one m n (k0 :: ks) s = .ok (ks', s') → ks'.head? = some k0
  | 0, k0, ks, ks', s, s', e => by
    unfold rowsP at e
    injection e with e; injection e with e1 e2; subst e1
    rfl
  | n + 1, k0, ks, ks', s, s', e => by
    unfold rowsP at e
    split at e
    · obtain ⟨k, s1, e1, e2⟩ := bnd_inv e
      exact rows_head n (ks := ks ++ [k]) e2
    · injection e with e; injection e with e1 e2; subst e1
      rfl
theorem fo_row {one : PS → PRes Int} {kd : Int} {m : List UInt8} (h1 : Fo T one) (hk : (kd = 4 ∧ m = [38, 38]) ∨ (kd = 5 ∧ m = [124, 124])) : Fo T (rowP T one kd m) := by
  intro s fr k s' h e
  unfold rowP at e
  obtain ⟨k0, s1, e1, e⟩ := bnd_inv e
  obtain ⟨ks, s2, e2, e⟩ := bnd_inv e
  obtain ⟨g1, g2, g3⟩ := fo_rows h1 _ (h1 _ _ _ _ h e1) e2
  split at e
  · rename_i hl
    injection e with e; injection e with ea eb; subst ea; subst eb
    have hks : ks = [k0] := by
      obtain ⟨y, hy⟩ := List.length_eq_one_iff.1 hl
      have := rows_head (T := T) (one := one) (m := m) 4097 e2
      rw [hy] at this ⊢
      simpa using this
    rw [hks] at g1
    exact g1
  · rename_i hl
    have hm := isM_tok (g3 (by simpa using hl))
    have g2 : 1 ≤ ks.length := g2
    exact g1.put e rfl none0 (Or.inr (Or.inl ⟨by rcases hk with ⟨rfl, _⟩ | ⟨rfl, _⟩ <;> simp, show 2 ≤ ks.length by omega⟩)) ⟨s1.nx, rfl, Or.inl ⟨hm.1, by
      rcases hk with ⟨rfl, rfl⟩ | ⟨rfl, rfl⟩
      · exact Or.inr (Or.inl ⟨rfl, hm.2⟩)
      · exact Or.inr (Or.inr (Or.inl ⟨rfl, hm.2⟩))⟩⟩
theorem fo_with {inner : PS → PRes Int} (h1 : Fo T inner) : Fo T (withP T inner) := by
  intro s fr k s' h e
  unfold withP at e
  obtain ⟨_, s1, e1, e⟩ := bnd_inv e
  obtain ⟨k2, s2, e2, e⟩ := bnd_inv e
  obtain ⟨_, s3, e3, e⟩ := bnd_inv e
  injection e with e; injection e with ea eb; subst ea; subst eb
  exact (gs_mark (h1 _ _ _ _ (gs_open h e1) e2) e3).to rfl rfl
theorem fo_sel (hT : Txt T) {ex : PS → PRes Int} (h1 : Fo T ex) {s s' : PS} {fr : List Int} {k kd : Int} (h : Gs T fr s) (h3 : (tk T s.nx).kind = 3) (hw : (kd = 8 ∧ (tk T s.nx).text.toList = [110, 101, 97, 114]) ∨ (kd = 9 ∧ (tk T s.nx).text.toList = [97, 112, 97, 114, 116]) ∨ (kd = 20 ∧ (tk T s.nx).text.toList = [99, 111, 117, 110, 116])) (e : selP T ex kd s = .ok (k, s')) : Gs T (fr ++ [k]) s' := by
  unfold selP at e
  obtain ⟨q, s5, e5, e⟩ := bnd_inv e
  unfold withP at e5
  obtain ⟨_, s1, e1, e5⟩ := bnd_inv e5
  obtain ⟨q2, s2, e2, e5⟩ := bnd_inv e5
  obtain ⟨_, s3, e3, e5⟩ := bnd_inv e5
  injection e5 with e5; injection e5 with ea eb; subst ea; subst eb
  obtain ⟨t, z2, f1, e2⟩ := bnd_inv e2
  obtain ⟨_, z3, f2, e2⟩ := bnd_inv e2
  obtain ⟨kk, z4, f3, e2⟩ := bnd_inv e2
  injection e2 with e2; injection e2 with ea eb; subst ea; subst eb
  have g := (gs_mark (h1 _ _ _ _ (gs_mark (gs_text (gs_open (gs_adv h) e1) f1) f2) f3) e3).to (s' := shutP s3) rfl rfl
  exact g.put e rfl (text_len hT f1) (Or.inl ⟨by rcases hw with ⟨rfl, _⟩ | ⟨rfl, _⟩ | ⟨rfl, _⟩ <;> simp, rfl⟩) ⟨s.nx, rfl, Or.inr (Or.inr (Or.inr ⟨h3, by
    rcases hw with ⟨rfl, hw⟩ | ⟨rfl, hw⟩ | ⟨rfl, hw⟩ <;> simp [hw]⟩))⟩
theorem fo_neg {un : PS → PRes Int} (h1 : Fo T un) : Fo T (negP T un) := by
  intro s fr k s' h e
  unfold negP at e
  obtain ⟨_, s1, e1, e⟩ := bnd_inv e
  obtain ⟨k2, s2, e2, e⟩ := bnd_inv e
  have hm := open_tok e1
  exact ((h1 _ _ _ _ (gs_open h e1) e2).to (s' := shutP s2) rfl rfl).put e rfl none0 (Or.inl ⟨by simp, rfl⟩) ⟨s.nx, rfl, Or.inl ⟨hm.1, Or.inl ⟨rfl, hm.2⟩⟩⟩
theorem fo_comp {te : PS → PRes Int} (h1 : Fo T te) : Fo T (compP T te) := by
  intro s fr k s' h e
  unfold compP at e
  obtain ⟨l, s1, e1, e⟩ := bnd_inv e
  have g1 := h1 _ _ _ _ h e1
  cases hb : betO (tk T s1.nx) with
  | none => rw [hb] at e; cases e
  | some q =>
    obtain ⟨kd, nu⟩ := q
    rw [hb] at e
    simp only at e
    obtain ⟨r, s2, e2, e⟩ := bnd_inv e
    have g2 := h1 _ _ _ _ (gs_adv g1) e2
    rw [List.append_assoc] at g2
    have hbt : BgT kd nu (tk T s1.nx) ∧ (kd = 6 ∨ kd = 7) := by
      unfold betO at hb
      split at hb
      · rename_i h4
        split at hb
        · cases hb
        · rename_i hc
          injection hb with hb; injection hb with ea eb; subst ea
          exact ⟨Or.inl ⟨h4, Or.inr (Or.inr (Or.inr (Or.inr ⟨rfl, hc⟩)))⟩, Or.inl rfl⟩
      · split at hb
        · rename_i h3
          split at hb
          · rename_i ht
            injection hb with hb; injection hb with ea eb; subst ea; subst eb
            exact ⟨Or.inr (Or.inr (Or.inr ⟨h3, Or.inl ⟨rfl, rfl, ht⟩⟩)), Or.inr rfl⟩
          · split at hb
            · rename_i ht
              injection hb with hb; injection hb with ea eb; subst ea; subst eb
              exact ⟨Or.inr (Or.inr (Or.inr ⟨h3, Or.inr (Or.inl ⟨rfl, rfl, ht⟩)⟩)), Or.inr rfl⟩
            · cases hb
        · cases hb
    exact g2.put e rfl none0 (Or.inr (Or.inr (Or.inl ⟨hbt.2, rfl⟩))) ⟨s1.nx, rfl, hbt.1⟩
theorem fo_const {s s' : PS} {fr : List Int} {k kd : Int} (h : Gs T fr s) (h3 : (tk T s.nx).kind = 3) (hw : (kd = 1 ∧ (tk T s.nx).text.toList = [116, 114, 117, 101]) ∨ (kd = 2 ∧ (tk T s.nx).text.toList = [102, 97, 108, 115, 101])) (e : constP T s kd = .ok (k, s')) : Gs T (fr ++ [k]) s' := by
  unfold constP at e
  have h0 : Gs T (fr ++ []) (adv s) := by rw [List.append_nil]; exact gs_adv h
  exact h0.put e rfl none0 (Or.inr (Or.inr (Or.inr (Or.inr ⟨by rcases hw with ⟨rfl, _⟩ | ⟨rfl, _⟩ <;> simp, rfl⟩)))) ⟨s.nx, rfl, Or.inr (Or.inr (Or.inr ⟨h3, by rcases hw with ⟨rfl, hw⟩ | ⟨rfl, hw⟩ <;> simp [hw]⟩))⟩
theorem fo_tol (hT : Txt T) {s s' : PS} {fr : List Int} {k : Int} (h : Gs T fr s) (h3 : (tk T s.nx).kind = 3) (hw : (tk T s.nx).text.toList = [116, 111, 108, 101, 114, 97, 116, 101, 100]) (e : tolP T s = .ok (k, s')) : Gs T (fr ++ [k]) s' := by
  unfold tolP at e
  obtain ⟨t, s1, e1, e⟩ := bnd_inv e
  have h0 : Gs T (fr ++ []) s1 := by rw [List.append_nil]; exact gs_named (gs_adv h) e1
  exact h0.put e rfl (named_len hT e1) (Or.inr (Or.inr (Or.inr (Or.inr ⟨by simp, rfl⟩)))) ⟨s.nx, rfl, Or.inr (Or.inr (Or.inr ⟨h3, by simp [hw]⟩))⟩
theorem fo_atom (hT : Txt T) {ex te : PS → PRes Int} (h1 : Fo T ex) (h2 : Fo T te) : Fo T (atomP T ex te) := by
  intro s fr k s' h e
  unfold atomP at e
  split at e
  · rename_i h3
    split at e
    · rename_i hw; exact fo_const h h3 (Or.inl ⟨rfl, hw⟩) e
    · split at e
      · rename_i hw; exact fo_const h h3 (Or.inr ⟨rfl, hw⟩) e
      · split at e
        · rename_i hw; exact fo_sel hT h1 h h3 (Or.inl ⟨rfl, hw⟩) e
        · split at e
          · rename_i hw; exact fo_sel hT h1 h h3 (Or.inr (Or.inl ⟨rfl, hw⟩)) e
          · split at e
            · rename_i hw; exact fo_tol hT h h3 hw e
            · exact fo_comp h2 _ _ _ _ h e
  · exact fo_comp h2 _ _ _ _ h e
theorem fo_word (hT : Txt T) {ex te : PS → PRes Int} (h1 : Fo T ex) (h2 : Fo T te) {s s' : PS} {fr : List Int} {k : Int} (h : Gs T fr s) (h3 : (tk T s.nx).kind = 3) (e : wordP T ex te s = .ok (k, s')) : Gs T (fr ++ [k]) s' := by
  unfold wordP at e
  split at e
  · rename_i hw; exact fo_who hT h h3 (Or.inl ⟨rfl, hw⟩) e
  · split at e
    · rename_i hw; exact fo_who hT h h3 (Or.inr (Or.inl ⟨rfl, hw⟩)) e
    · split at e
      · rename_i hw; exact fo_who hT h h3 (Or.inr (Or.inr ⟨rfl, hw⟩)) e
      · split at e
        · rename_i hw
          obtain ⟨r, s1, e1, e⟩ := bnd_inv e
          exact (fo_with h2 _ _ _ _ (gs_adv h) e1).put e rfl none0 (Or.inl ⟨by simp, rfl⟩) ⟨s.nx, rfl, Or.inr (Or.inr (Or.inr ⟨h3, by simp [hw]⟩))⟩
        · split at e
          · rename_i hw; exact fo_sel hT h1 h h3 (Or.inr (Or.inr ⟨rfl, hw⟩)) e
          · cases e
theorem fo_gr (hT : Txt T) : ∀ (n : Nat) (g : Gr), Fo T (gr T n g)
  | 0, g => fun s fr k s' _ e => by unfold gr at e; cases e
  | n + 1, .expr => fo_row (fo_gr hT n .conj) (Or.inr ⟨rfl, rfl⟩)
  | n + 1, .conj => fo_row (fo_gr hT n .unit) (Or.inl ⟨rfl, rfl⟩)
  | n + 1, .unit => fun s fr k s' h e => by
    unfold gr unitP at e
    split at e
    · exact fo_neg (fo_gr hT n .unit) _ _ _ _ h e
    · split at e
      · exact fo_with (fo_gr hT n .expr) _ _ _ _ h e
      · exact fo_atom hT (fo_gr hT n .expr) (fo_gr hT n .term) _ _ _ _ h e
  | n + 1, .term => fun s fr k s' h e => by
    unfold gr termP at e
    split at e
    · rename_i h1; exact fo_el hT h h1 e
    · split at e
      · exact fo_set hT _ _ _ _ h e
      · split at e
        · rename_i h3; exact fo_word hT (fo_gr hT n .expr) (fo_gr hT n .term) h h3 e
        · cases e
end
end Go.Proofs.YtcldglilhhhdoaaGreatDoor.L
