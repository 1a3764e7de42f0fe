import Derived.Test.YtlhlpamciafocaaGreatDoorMgAP
import Derived.Test.YtlhlpamciafocaaGreatDoorMgAG
namespace Go.Proofs.YtlhlpamciafocaaGreatDoor.L
open Go.RowKit Go.Shelf
set_option linter.unusedVariables false
set_option linter.unusedSimpArgs false
theorem isM_tok {T : List Tok} {s : PS} {m : List UInt8} (h : isM T s m = true) : (tk T s.nx).kind = 4 ∧ (tk T s.nx).text.toList = m := by
  unfold isM at h
  simpa using h
theorem open_tok {T : List Tok} {s s' : PS} {m : List UInt8} {u : Unit} (e : openP T s m = .ok (u, s')) : (tk T s.nx).kind = 4 ∧ (tk T s.nx).text.toList = m := by
  unfold openP at e
  split at e
  · rename_i h1
    exact isM_tok h1
  · cases e
section
variable {T : List Tok}
theorem fo_rows {one : PS → PRes Int} {m : List UInt8} (h1 : Fo T one) : ∀ (n : Nat) {ks ks' : List Int} {s s' : PS} {fr : List Int}, Gs T (fr ++ ks) s → rowsP T one m n ks s = .ok (ks', s') → Gs T (fr ++ ks') s' ∧ ks.length ≤ ks'.length ∧ (ks'.length ≠ ks.length → isM T s m = true)
  | 0, ks, ks', s, s', fr, h, e => by
    unfold rowsP at e
    injection e with e; injection e with e1 e2; subst e1; subst e2
    exact ⟨h, Nat.le_refl _, fun hn => absurd rfl hn⟩
  | n + 1, ks, ks', s, s', fr, h, e => by
    unfold rowsP at e
    split at e
    · rename_i hm
      obtain ⟨k, s1, e1, e2⟩ := bnd_inv e
      have h2 := h1 _ _ _ _ (gs_adv h) e1
      obtain ⟨g1, g2, _⟩ := fo_rows h1 n (by rw [← List.append_assoc]; exact h2) e2
      exact ⟨g1, by simp at g2; omega, fun _ => hm⟩
    · injection e with e; injection e with e1 e2; subst e1; subst e2
      exact ⟨h, Nat.le_refl _, fun hn => absurd rfl hn⟩
theorem rows_head {one : PS → PRes Int} {m : List UInt8} : ∀ (n : Nat) {k0 : Int} {ks ks' : List Int} {s s' : PS}, rowsP T one m n (k0 :: ks) s = .ok (ks', s') → ks'.head? = some k0
  | 0, k0, ks, ks', s, s', e => by
    unfold rowsP at e
    injection e with e; injection e with e1 e2; subst e1
    rfl
  | n + 1, k0, ks, ks', s, s', e => by
    unfold rowsP at e
    split at e
    · obtain ⟨k, s1, e1, e2⟩ := bnd_inv e
      exact rows_head n (ks := ks ++ [k]) e2
    · injection e with e; injection e with e1 e2; subst e1
      rfl
theorem fo_row {one : PS → PRes Int} {kd : Int} {m : List UInt8} (h1 : Fo T one) (hk : (kd = 4 ∧ m = [38, 38]) ∨ (kd = 5 ∧ m = [124, 124])) : Fo T (rowP T one kd m) := by
  intro s fr k s' h e
  unfold rowP at e
  obtain ⟨k0, s1, e1, e⟩ := bnd_inv e
  obtain ⟨ks, s2, e2, e⟩ := bnd_inv e
  obtain ⟨g1, g2, g3⟩ := fo_rows h1 _ (h1 _ _ _ _ h e1) e2
  split at e
  · rename_i hl
    injection e with e; injection e with ea eb; subst ea; subst eb
    have hks : ks = [k0] := by
      obtain ⟨y, hy⟩ := List.length_eq_one_iff.1 hl
      have := rows_head (T := T) (one := one) (m := m) 4097 e2
      rw [hy] at this ⊢
      simpa using this
    rw [hks] at g1
    exact g1
  · rename_i hl
    have hm := isM_tok (g3 (by simpa using hl))
    have g2 : 1 ≤ ks.length := g2
    exact g1.put e rfl none0 (Or.inr (Or.inl ⟨by rcases hk with ⟨rfl, _⟩ | ⟨rfl, _⟩ <;> simp, show 2 ≤ ks.length by omega⟩)) ⟨s1.nx, rfl, Or.inl ⟨hm.1, by
      rcases hk with ⟨rfl, rfl⟩ | ⟨rfl, rfl⟩
      · exact Or.inr (Or.inl ⟨rfl, hm.2⟩)
      · exact Or.inr (Or.inr (Or.inl ⟨rfl, hm.2⟩))⟩⟩
theorem fo_with {inner : PS → PRes Int} (h1 : Fo T inner) : Fo T (withP T inner) := by
  intro s fr k s' h e
  unfold withP at e
  obtain ⟨_, s1, e1, e⟩ := bnd_inv e
  obtain ⟨k2, s2, e2, e⟩ := bnd_inv e
  obtain ⟨_, s3, e3, e⟩ := bnd_inv e
  injection e with e; injection e with ea eb; subst ea; subst eb
  exact (gs_mark (h1 _ _ _ _ (gs_open h e1) e2) e3).to rfl rfl
theorem fo_sel (hT : Txt T) {ex : PS → PRes Int} (h1 : Fo T ex) {s s' : PS} {fr : List Int} {k kd : Int} (h : Gs T fr s) (h3 : (tk T s.nx).kind = 3) (hw : (kd = 8 ∧ (tk T s.nx).text.toList = [110, 101, 97, 114]) ∨ (kd = 9 ∧ (tk T s.nx).text.toList = [97, 112, 97, 114, 116]) ∨ (kd = 20 ∧ (tk T s.nx).text.toList = [99, 111, 117, 110, 116])) (e : selP T ex kd s = .ok (k, s')) : Gs T (fr ++ [k]) s' := by
  unfold selP at e
  obtain ⟨q, s5, e5, e⟩ := bnd_inv e
  unfold withP at e5
  obtain ⟨_, s1, e1, e5⟩ := bnd_inv e5
  obtain ⟨q2, s2, e2, e5⟩ := bnd_inv e5
  obtain ⟨_, s3, e3, e5⟩ := bnd_inv e5
  injection e5 with e5; injection e5 with ea eb; subst ea; subst eb
  obtain ⟨t, z2, f1, e2⟩ := bnd_inv e2
  obtain ⟨_, z3, f2, e2⟩ := bnd_inv e2
  obtain ⟨kk, z4, f3, e2⟩ := bnd_inv e2
  injection e2 with e2; injection e2 with ea eb; subst ea; subst eb
  have g := (gs_mark (h1 _ _ _ _ (gs_mark (gs_text (gs_open (gs_adv h) e1) f1) f2) f3) e3).to (s' := shutP s3) rfl rfl
  exact g.put e rfl (text_len hT f1) (Or.inl ⟨by rcases hw with ⟨rfl, _⟩ | ⟨rfl, _⟩ | ⟨rfl, _⟩ <;> simp, rfl⟩) ⟨s.nx, rfl, Or.inr (Or.inr (Or.inr ⟨h3, by
    rcases hw with ⟨rfl, hw⟩ | ⟨rfl, hw⟩ | ⟨rfl, hw⟩ <;> simp [hw]⟩))⟩
theorem fo_neg {un : PS → PRes Int} (h1 : Fo T un) : Fo T (negP T un) := by
  intro s fr k s' h e
  unfold negP at e
  obtain ⟨_, s1, e1, e⟩ := bnd_inv e
  obtain ⟨k2, s2, e2, e⟩ := bnd_inv e
  have hm := open_tok e1
  exact ((h1 _ _ _ _ (gs_open h e1) e2).to (s' := shutP s2) rfl rfl).put e rfl none0 (Or.inl ⟨by simp, rfl⟩) ⟨s.nx, rfl, Or.inl ⟨hm.1, Or.inl ⟨rfl, hm.2⟩⟩⟩
theorem fo_comp {te : PS → PRes Int} (h1 : Fo T te) : Fo T (compP T te) := by
  intro s fr k s' h e
  unfold compP at e
  obtain ⟨l, s1, e1, e⟩ := bnd_inv e
  have g1 := h1 _ _ _ _ h e1
  cases hb : betO (tk T s1.nx) with
  | none => rw [hb] at e; cases e
  | some q =>
    obtain ⟨kd, nu⟩ := q
    rw [hb] at e
    simp only at e
    obtain ⟨r, s2, e2, e⟩ := bnd_inv e
    have g2 := h1 _ _ _ _ (gs_adv g1) e2
    rw [List.append_assoc] at g2
    have hbt : BgT kd nu (tk T s1.nx) ∧ (kd = 6 ∨ kd = 7) := by
      unfold betO at hb
      split at hb
      · rename_i h4
        split at hb
        · cases hb
        · rename_i hc
          injection hb with hb; injection hb with ea eb; subst ea
          exact ⟨Or.inl ⟨h4, Or.inr (Or.inr (Or.inr (Or.inr ⟨rfl, hc⟩)))⟩, Or.inl rfl⟩
      · split at hb
        · rename_i h3
          split at hb
          · rename_i ht
            injection hb with hb; injection hb with ea eb; subst ea; subst eb
            exact ⟨Or.inr (Or.inr (Or.inr ⟨h3, Or.inl ⟨rfl, rfl, ht⟩⟩)), Or.inr rfl⟩
          · split at hb
            · rename_i ht
              injection hb with hb; injection hb with ea eb; subst ea; subst eb
              exact ⟨Or.inr (Or.inr (Or.inr ⟨h3, Or.inr (Or.inl ⟨rfl, rfl, ht⟩)⟩)), Or.inr rfl⟩
            · cases hb
        · cases hb
    exact g2.put e rfl none0 (Or.inr (Or.inr (Or.inl ⟨hbt.2, rfl⟩))) ⟨s1.nx, rfl, hbt.1⟩
theorem fo_const {s s' : PS} {fr : List Int} {k kd : Int} (h : Gs T fr s) (h3 : (tk T s.nx).kind = 3) (hw : (kd = 1 ∧ (tk T s.nx).text.toList = [116, 114, 117, 101]) ∨ (kd = 2 ∧ (tk T s.nx).text.toList = [102, 97, 108, 115, 101])) (e : constP T s kd = .ok (k, s')) : Gs T (fr ++ [k]) s' := by
  unfold constP at e
  have h0 : Gs T (fr ++ []) (adv s) := by rw [List.append_nil]; exact gs_adv h
  exact h0.put e rfl none0 (Or.inr (Or.inr (Or.inr (Or.inr ⟨by rcases hw with ⟨rfl, _⟩ | ⟨rfl, _⟩ <;> simp, rfl⟩)))) ⟨s.nx, rfl, Or.inr (Or.inr (Or.inr ⟨h3, by rcases hw with ⟨rfl, hw⟩ | ⟨rfl, hw⟩ <;> simp [hw]⟩))⟩
theorem fo_tol (hT : Txt T) {s s' : PS} {fr : List Int} {k : Int} (h : Gs T fr s) (h3 : (tk T s.nx).kind = 3) (hw : (tk T s.nx).text.toList = [116, 111, 108, 101, 114, 97, 116, 101, 100]) (e : tolP T s = .ok (k, s')) : Gs T (fr ++ [k]) s' := by
  unfold tolP at e
  obtain ⟨t, s1, e1, e⟩ := bnd_inv e
  have h0 : Gs T (fr ++ []) s1 := by rw [List.append_nil]; exact gs_named (gs_adv h) e1
  exact h0.put e rfl (named_len hT e1) (Or.inr (Or.inr (Or.inr (Or.inr ⟨by simp, rfl⟩)))) ⟨s.nx, rfl, Or.inr (Or.inr (Or.inr ⟨h3, by simp [hw]⟩))⟩
theorem fo_atom (hT : Txt T) {ex te : PS → PRes Int} (h1 : Fo T ex) (h2 : Fo T te) : Fo T (atomP T ex te) := by
  intro s fr k s' h e
  unfold atomP at e
  split at e
  · rename_i h3
    split at e
    · rename_i hw; exact fo_const h h3 (Or.inl ⟨rfl, hw⟩) e
    · split at e
      · rename_i hw; exact fo_const h h3 (Or.inr ⟨rfl, hw⟩) e
      · split at e
        · rename_i hw; exact fo_sel hT h1 h h3 (Or.inl ⟨rfl, hw⟩) e
        · split at e
          · rename_i hw; exact fo_sel hT h1 h h3 (Or.inr (Or.inl ⟨rfl, hw⟩)) e
          · split at e
            · rename_i hw; exact fo_tol hT h h3 hw e
            · exact fo_comp h2 _ _ _ _ h e
  · exact fo_comp h2 _ _ _ _ h e
theorem fo_word (hT : Txt T) {ex te : PS → PRes Int} (h1 : Fo T ex) (h2 : Fo T te) {s s' : PS} {fr : List Int} {k : Int} (h : Gs T fr s) (h3 : (tk T s.nx).kind = 3) (e : wordP T ex te s = .ok (k, s')) : Gs T (fr ++ [k]) s' := by
  unfold wordP at e
  split at e
  · rename_i hw; exact fo_who hT h h3 (Or.inl ⟨rfl, hw⟩) e
  · split at e
    · rename_i hw; exact fo_who hT h h3 (Or.inr (Or.inl ⟨rfl, hw⟩)) e
    · split at e
      · rename_i hw; exact fo_who hT h h3 (Or.inr (Or.inr ⟨rfl, hw⟩)) e
      · split at e
        · rename_i hw
          obtain ⟨r, s1, e1, e⟩ := bnd_inv e
          exact (fo_with h2 _ _ _ _ (gs_adv h) e1).put e rfl none0 (Or.inl ⟨by simp, rfl⟩) ⟨s.nx, rfl, Or.inr (Or.inr (Or.inr ⟨h3, by simp [hw]⟩))⟩
        · split at e
          · rename_i hw; exact fo_sel hT h1 h h3 (Or.inr (Or.inr ⟨rfl, hw⟩)) e
          · cases e
theorem fo_gr (hT : Txt T) : ∀ (n : Nat) (g : Gr), Fo T (gr T n g)
  | 0, g => fun s fr k s' _ e => by unfold gr at e; cases e
  | n + 1, .expr => fo_row (fo_gr hT n .conj) (Or.inr ⟨rfl, rfl⟩)
  | n + 1, .conj => fo_row (fo_gr hT n .unit) (Or.inl ⟨rfl, rfl⟩)
  | n + 1, .unit => fun s fr k s' h e => by
    unfold gr unitP at e
    split at e
    · exact fo_neg (fo_gr hT n .unit) _ _ _ _ h e
    · split at e
      · exact fo_with (fo_gr hT n .expr) _ _ _ _ h e
      · exact fo_atom hT (fo_gr hT n .expr) (fo_gr hT n .term) _ _ _ _ h e
  | n + 1, .term => fun s fr k s' h e => by
    unfold gr termP at e
    split at e
    · rename_i h1; exact fo_el hT h h1 e
    · split at e
      · exact fo_set hT _ _ _ _ h e
      · split at e
        · rename_i h3; exact fo_word hT (fo_gr hT n .expr) (fo_gr hT n .term) h h3 e
        · cases e
end
end Go.Proofs.YtlhlpamciafocaaGreatDoor.L
namespace Go.Proofs.YtlhlpamciafocaaGreatDoor.L
open Go.RowKit Go.Shelf
set_option linter.unusedVariables false
end Go.Proofs.YtlhlpamciafocaaGreatDoor.L
namespace Go.Proofs.YtlhlpamciafocaaGreatDoor.L
open Go.RowKit Go.Shelf
set_option linter.unusedVariables false
set_option linter.unusedSimpArgs false
theorem ext_head {s : ByteArray} {k e : Nat} {c : UInt8} {l : List UInt8} (h1 : k < e) (h2 : e ≤ s.size) (h : (s.extract k e).toList = c :: l) : bt s k = c := by
  have := bt_ext s k e 0 (by omega) h2
  rw [Nat.add_zero] at this
  rw [← this]
  unfold bt
  rw [ByteArray.toList_eq] at h
  rw [h]
  rfl
theorem txS_len (s : ByteArray) (f : Nat) : ∀ (n k : Nat) (l l' : List UInt8) (e : Nat), s.size - k = n → txS s f k l = .ok l' e → l'.length ≤ 127 := by
  intro n
  induction n using Nat.strongRecOn with
  | ind n ih =>
    intro k l l' e hn h
    by_cases hlt : k < s.size
    · by_cases c : bt s k = 34
      · rw [txS_q s f k l hlt c] at h
        split at h
        · exact TR.noConfusion h
        · obtain ⟨rfl, _⟩ := TR.ok.inj h
          omega
      · by_cases d : bt s k = 92
        · by_cases e0 : (esc3 s k).2 = 0
          · rw [txS_e0 s f k l hlt d e0] at h
            exact TR.noConfusion h
          · rw [txS_e s f k l hlt d e0] at h
            exact ih (s.size - (k + (esc3 s k).2)) (by omega) _ _ _ _ rfl h
        · by_cases e0 : iv (bt s k) < 32
          · rw [txS_low s f k l hlt c d e0] at h
            exact TR.noConfusion h
          · rw [txS_go s f k l hlt c d e0] at h
            exact ih (s.size - (k + 1)) (by omega) _ _ _ _ rfl h
    · rw [txS_end s f k l hlt] at h
      exact TR.noConfusion h
theorem tok_head {s : ByteArray} {k : Nat} {t : Tok} (hk : k < s.size) (h : tokS s k = .ok t) : (t.kind = 1 → bt s k = 34 ∧ t.text.size ≤ 127) ∧ (t.kind = 2 → digB (iv (bt s k)) = true ∨ bt s k = 45) ∧ ((t.kind = 3 ∨ t.kind = 4) → ∀ c l, t.text.toList = c :: l → bt s k = c) := by
  have hin := tok_in hk h
  unfold tokS at h
  split at h
  · rename_i h34
    cases hx : txS s k (k + 1) [] with
    | bad c a => rw [hx] at h; exact RR.noConfusion h
    | ok l e =>
      rw [hx] at h
      have hl := txS_len s k _ (k + 1) [] l e rfl hx
      have ht := RR.ok.inj h
      subst ht
      exact ⟨fun _ => ⟨h34, by show l.toArray.size ≤ 127; simpa using hl⟩, fun h2 => (by cases h2), fun h2 => (by rcases h2 with h2 | h2 <;> cases h2)⟩
  · split at h
    · rename_i hd
      unfold numTok at h
      split at h
      · exact RR.noConfusion h
      · have ht := RR.ok.inj h
        subst ht
        refine ⟨fun h1 => (by cases h1), fun _ => ?_, fun h2 => (by rcases h2 with h2 | h2 <;> cases h2)⟩
        rcases hd with hd | hd
        · exact Or.inl hd
        · exact Or.inr hd.1
    · split at h
      · have ht := RR.ok.inj h
        subst ht
        exact ⟨fun h1 => (by cases h1), fun h2 => (by cases h2), fun _ c l hc => ext_head hin.2.1 hin.2.2 hc⟩
      · unfold markS at h
        split at h
        · have ht := RR.ok.inj h
          subst ht
          exact ⟨fun h1 => (by cases h1), fun h2 => (by cases h2), fun _ c l hc => ext_head hin.2.1 hin.2.2 hc⟩
        · split at h
          · have ht := RR.ok.inj h
            subst ht
            exact ⟨fun h1 => (by cases h1), fun h2 => (by cases h2), fun _ c l hc => ext_head hin.2.1 hin.2.2 hc⟩
          · exact RR.noConfusion h
/-- The byte with which a part begins. -/
def BgC (k n : Int) (c : UInt8) : Prop :=
  (k = 3 ∧ c = 33) ∨ (k = 4 ∧ c = 38) ∨ (k = 5 ∧ c = 124) ∨ (k = 13 ∧ c = 123) ∨ (k = 6 ∧ (c = 61 ∨ c = 33 ∨ c = 60 ∨ c = 62)) ∨ (k = 11 ∧ c = 34) ∨ (k = 12 ∧ (c = 45 ∨ digB (iv c) = true)) ∨
  (k = 7 ∧ n = 0 ∧ c = 105) ∨ (k = 7 ∧ n = 1 ∧ c = 110) ∨ (k = 1 ∧ c = 116) ∨ (k = 2 ∧ c = 102) ∨ (k = 8 ∧ c = 110) ∨ (k = 9 ∧ c = 97) ∨ (k = 10 ∧ c = 116) ∨ (k = 19 ∧ c = 105) ∨ (k = 20 ∧ c = 99) ∨
  ((k = 14 ∨ k = 15 ∨ k = 16 ∨ k = 17 ∨ k = 18) ∧ ((n = 2 ∧ c = 110) ∨ (n = 1 ∧ c = 112) ∨ (n = 3 ∧ c = 105)))
theorem cmp_head {l : List UInt8} (h : cmpO l ≠ 0) : ∃ c r, l = c :: r ∧ (c = 61 ∨ c = 33 ∨ c = 60 ∨ c = 62) := by
  unfold cmpO at h
  repeat' (split at h)
  all_goals first | (rename_i e; subst e; exact ⟨_, _, rfl, by decide⟩) | (exact absurd rfl h)
theorem bg_byte {src : ByteArray} {t : Tok} {k n : Int} {c : UInt8} (hb : BgT k n t) (h1 : t.kind = 1 → c = 34) (h2 : t.kind = 2 → digB (iv c) = true ∨ c = 45) (h3 : (t.kind = 3 ∨ t.kind = 4) → ∀ d l, t.text.toList = d :: l → c = d) : BgC k n c := by
  unfold BgT at hb
  unfold BgC
  rcases hb with ⟨h4, hb⟩ | ⟨h4, hb⟩ | ⟨h4, hb⟩ | ⟨h4, hb⟩
  · have h5 := h3 (Or.inr h4)
    rcases hb with ⟨hk, hb⟩ | ⟨hk, hb⟩ | ⟨hk, hb⟩ | ⟨hk, hb⟩ | ⟨hk, hb⟩
    · have := h5 _ _ hb; simp [hk, this]
    · have := h5 _ _ hb; simp [hk, this]
    · have := h5 _ _ hb; simp [hk, this]
    · have := h5 _ _ hb; simp [hk, this]
    · obtain ⟨d, r, e, hd⟩ := cmp_head hb
      have := h5 _ _ e
      rw [← this] at hd
      exact Or.inr (Or.inr (Or.inr (Or.inr (Or.inl ⟨hk, hd⟩))))
  · have := h1 h4; simp [hb, this]
  · exact Or.inr (Or.inr (Or.inr (Or.inr (Or.inr (Or.inr (Or.inl ⟨hb, (h2 h4).symm⟩))))))
  · have h5 := h3 (Or.inl h4)
    rcases hb with ⟨hk, hn, hb⟩ | ⟨hk, hn, hb⟩ | ⟨hk, hb⟩ | ⟨hk, hb⟩ | ⟨hk, hb⟩ | ⟨hk, hb⟩ | ⟨hk, hb⟩ | ⟨hk, hb⟩ | ⟨hk, hb⟩ | ⟨hk, hb⟩
    · have := h5 _ _ hb; simp [hk, hn, this]
    · have := h5 _ _ hb; simp [hk, hn, this]
    · have := h5 _ _ hb; simp [hk, this]
    · have := h5 _ _ hb; simp [hk, this]
    · have := h5 _ _ hb; simp [hk, this]
    · have := h5 _ _ hb; simp [hk, this]
    · have := h5 _ _ hb; simp [hk, this]
    · have := h5 _ _ hb; simp [hk, this]
    · have := h5 _ _ hb; simp [hk, this]
    · refine Or.inr (Or.inr (Or.inr (Or.inr (Or.inr (Or.inr (Or.inr (Or.inr (Or.inr (Or.inr (Or.inr (Or.inr (Or.inr (Or.inr (Or.inr (Or.inr ⟨hk, ?_⟩)))))))))))))))
      rcases hb with ⟨hn, hb⟩ | ⟨hn, hb⟩ | ⟨hn, hb⟩
      · exact Or.inl ⟨hn, h5 _ _ hb⟩
      · exact Or.inr (Or.inl ⟨hn, h5 _ _ hb⟩)
      · exact Or.inr (Or.inr ⟨hn, h5 _ _ hb⟩)
theorem bgT_kind {k n : Int} {t : Tok} (hb : BgT k n t) : t.kind ≠ 0 := by
  unfold BgT at hb
  omega
theorem scan_txt {src : ByteArray} (h : (scanT src).2 = none) : Txt (scanT src).1 := fun i hk => by
  obtain ⟨_, h2, h3, _, _⟩ := tk_spec h (i := i) (by rw [hk]; decide)
  exact ((tok_head h2 h3).1 hk).2
theorem bgt_byte {src : ByteArray} (h : (scanT src).2 = none) {p : Pt} {x : Int} (hb : Bgt (scanT src).1 p x) : ∃ n : Nat, x = (n : Int) ∧ n < src.size ∧ BgC p.kind p.num (bt src n) := by
  obtain ⟨i, hx, hb⟩ := hb
  obtain ⟨_, h2, h3, _, _⟩ := tk_spec h (bgT_kind hb)
  have ⟨a1, a2, a3⟩ := tok_head h2 h3
  exact ⟨_, hx, h2, bg_byte (src := src) hb (fun hk => (a1 hk).1) a2 a3⟩
theorem gs_zero (T : List Tok) : Gs T [] ⟨0, 0, [], []⟩ := ⟨rfl, rfl, fun j hj => absurd hj (Nat.not_lt_zero _)⟩
/-- What stands of a tree that was read. -/
structure Rdd (src : ByteArray) (s : PS) : Prop where
  len : s.os.length = s.ps.length
  top : (fre s.ps s.ps.length).length = 1
  most : s.ps.length ≤ 1000
  ok : ∀ j, j < s.ps.length → (pt s.ps j).kids.length ≤ (fre s.ps j).length ∧ (pt s.ps j).kids = (fre s.ps j).drop ((fre s.ps j).length - (pt s.ps j).kids.length) ∧ (pt s.ps j).text.size ≤ 127 ∧ Ari (pt s.ps j).kind (pt s.ps j).kids.length
  bg : ∀ j, j < s.ps.length → ∃ n : Nat, s.os.getD j 0 = (n : Int) ∧ n < src.size ∧ BgC (pt s.ps j).kind (pt s.ps j).num (bt src n)
theorem either_ok {src : ByteArray} {s : PS} (h : parR src = .ok s) : Rdd src s := by
  unfold parR at h
  cases hs : (scanT src).2 with
  | some q => obtain ⟨c, a⟩ := q; rw [hs] at h; cases h
  | none =>
    rw [hs] at h
    simp only at h
    cases hw : wholeP (scanT src).1 16392 with
    | error q => rw [hw] at h; cases h
    | ok q =>
      obtain ⟨u, s1⟩ := q
      rw [hw] at h
      simp only [Except.ok.injEq] at h
      subst h
      unfold wholeP at hw
      obtain ⟨k, s2, e1, e2⟩ := bnd_inv hw
      have g := fo_gr (scan_txt hs) _ _ _ _ _ _ (gs_zero _) e1
      split at e2
      · split at e2
        · cases e2
        · rename_i h1000
          injection e2 with e2; injection e2 with _ e2; subst e2
          exact ⟨g.len, by rw [g.fr]; rfl, by omega, fun j hj => by have h5 := g.ok j hj; exact ⟨h5.1, h5.2.1, h5.2.2.1, h5.2.2.2.1⟩, fun j hj => bgt_byte hs (g.ok j hj).2.2.2.2⟩
      · cases e2
end Go.Proofs.YtlhlpamciafocaaGreatDoor.L
namespace Go.Proofs.YtlhlpamciafocaaGreatDoor.L
open Go.RowKit
set_option linter.unusedVariables false
set_option linter.unusedSimpArgs false
end Go.Proofs.YtlhlpamciafocaaGreatDoor.L
namespace Go.Proofs.YtlhlpamciafocaaGreatDoor.L
open Go.RowKit Go.Shelf
set_option linter.unusedVariables false
set_option linter.unusedSimpArgs false
end Go.Proofs.YtlhlpamciafocaaGreatDoor.L
namespace Go.Proofs.YtlhlpamciafocaaGreatDoor.L
open Go.RowKit
set_option linter.unusedVariables false
set_option linter.unusedSimpArgs false
/-- More strength changes nothing but the fault without a number. -/
def Mo {α : Type} (p p' : PRes α) : Prop := p = .error (0, 0) ∨ p' = p
theorem mo_rfl {α : Type} (p : PRes α) : Mo p p := Or.inr rfl
theorem mo_trans {α : Type} {p q r : PRes α} (h1 : Mo p q) (h2 : Mo q r) : Mo p r := by
  rcases h1 with h1 | h1
  · exact Or.inl h1
  · rcases h2 with h2 | h2
    · exact Or.inl (by rw [← h1]; exact h2)
    · exact Or.inr (by rw [h2, h1])
theorem mo_bnd {α β : Type} {p p' : PRes α} {f f' : α → PS → PRes β} (hp : Mo p p') (hf : ∀ a s, Mo (f a s) (f' a s)) : Mo (bnd p f) (bnd p' f') := by
  rcases hp with hp | hp
  · exact Or.inl (by rw [hp]; rfl)
  · rw [hp]
    match p with
    | .ok (a, s) => exact hf a s
    | .error e => exact mo_rfl _
theorem mo_if {α : Type} {c : Prop} [Decidable c] {p q p' q' : PRes α} (hp : Mo p p') (hq : Mo q q') : Mo (if c then p else q) (if c then p' else q') := by
  by_cases h : c
  · rw [if_pos h, if_pos h]; exact hp
  · rw [if_neg h, if_neg h]; exact hq
section
variable {T : List Tok} {one one' ex ex' te te' un un' : PS → PRes Int}
theorem mo_rows (h : ∀ s, Mo (one s) (one' s)) (m : List UInt8) : ∀ (n : Nat) (ks : List Int) (s : PS), Mo (rowsP T one m n ks s) (rowsP T one' m n ks s)
  | 0, ks, s => mo_rfl _
  | n + 1, ks, s => mo_if (mo_bnd (h _) fun k s1 => mo_rows h m n _ s1) (mo_rfl _)
theorem mo_row (h : ∀ s, Mo (one s) (one' s)) (kd : Int) (m : List UInt8) (s : PS) : Mo (rowP T one kd m s) (rowP T one' kd m s) :=
  mo_bnd (h s) fun k0 s1 => mo_bnd (mo_rows h m _ _ s1) fun ks s2 => mo_rfl _
theorem mo_with {α : Type} {inn inn' : PS → PRes α} (h : ∀ s, Mo (inn s) (inn' s)) (s : PS) : Mo (withP T inn s) (withP T inn' s) :=
  mo_bnd (mo_rfl _) fun _ s1 => mo_bnd (h s1) fun k s2 => mo_rfl _
theorem mo_sel (h : ∀ s, Mo (ex s) (ex' s)) (kd : Int) (s : PS) : Mo (selP T ex kd s) (selP T ex' kd s) :=
  mo_bnd (mo_with (fun s1 => mo_bnd (mo_rfl _) fun t s2 => mo_bnd (mo_rfl _) fun _ s3 => mo_bnd (h s3) fun k s4 => mo_rfl _) _) fun q s5 => mo_rfl _
theorem mo_neg (h : ∀ s, Mo (un s) (un' s)) (s : PS) : Mo (negP T un s) (negP T un' s) :=
  mo_bnd (mo_rfl _) fun _ s1 => mo_bnd (h s1) fun k s2 => mo_rfl _
theorem mo_comp (h : ∀ s, Mo (te s) (te' s)) (s : PS) : Mo (compP T te s) (compP T te' s) := by
  refine mo_bnd (h s) fun l s1 => ?_
  cases betO (tk T s1.nx) with
  | none => exact mo_rfl _
  | some q => exact mo_bnd (h _) fun r s2 => mo_rfl _
theorem mo_atom (h1 : ∀ s, Mo (ex s) (ex' s)) (h2 : ∀ s, Mo (te s) (te' s)) (s : PS) : Mo (atomP T ex te s) (atomP T ex' te' s) :=
  mo_if (mo_if (mo_rfl _) (mo_if (mo_rfl _) (mo_if (mo_sel h1 8 s) (mo_if (mo_sel h1 9 s) (mo_if (mo_rfl _) (mo_comp h2 s)))))) (mo_comp h2 s)
theorem mo_word (h1 : ∀ s, Mo (ex s) (ex' s)) (h2 : ∀ s, Mo (te s) (te' s)) (s : PS) : Mo (wordP T ex te s) (wordP T ex' te' s) :=
  mo_if (mo_rfl _) (mo_if (mo_rfl _) (mo_if (mo_rfl _) (mo_if (mo_bnd (mo_with h2 _) fun k s1 => mo_rfl _) (mo_if (mo_sel h1 20 s) (mo_rfl _)))))
end
theorem mo_gr {T : List Tok} : ∀ (n : Nat) (g : Gr) (s : PS), Mo (gr T n g s) (gr T (n + 1) g s)
  | 0, g, s => Or.inl rfl
  | n + 1, .expr, s => mo_row (mo_gr n .conj) 5 _ s
  | n + 1, .conj, s => mo_row (mo_gr n .unit) 4 _ s
  | n + 1, .unit, s => mo_if (mo_neg (mo_gr n .unit) s) (mo_if (mo_with (mo_gr n .expr) s) (mo_atom (mo_gr n .expr) (mo_gr n .term) s))
  | n + 1, .term, s => mo_if (mo_rfl _) (mo_if (mo_rfl _) (mo_if (mo_word (mo_gr n .expr) (mo_gr n .term) s) (mo_rfl _)))
theorem mo_le {T : List Tok} (g : Gr) (s : PS) (n : Nat) : ∀ j, Mo (gr T n g s) (gr T (n + j) g s)
  | 0 => mo_rfl _
  | j + 1 => mo_trans (mo_le g s n j) (mo_gr (n + j) g s)
theorem gr_less {T : List Tok} {g : Gr} {s : PS} {n m : Nat} (hn : 4 * (T.length - s.nx) + lvl g < n) (hm : n ≤ m) : gr T m g s = gr T n g s := by
  obtain ⟨j, rfl⟩ : ∃ j, m = n + j := ⟨m - n, by omega⟩
  rcases mo_le g s n j with h | h
  · exact absurd rfl (nz_gr n g s hn 0 0 h)
  · exact h
section
variable {T T' : List Tok} {d e : Nat} {P : List Pt}
end
end Go.Proofs.YtlhlpamciafocaaGreatDoor.L
