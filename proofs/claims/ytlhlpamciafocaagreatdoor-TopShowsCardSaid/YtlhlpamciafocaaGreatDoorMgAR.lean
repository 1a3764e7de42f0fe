import Derived.Test.YtlhlpamciafocaaGreatDoorMgAQ
import Derived.Deep.MidRow
import Derived.Deep.QuietTactic
import Derived.BigQuiet
import Derived.Test.YtlhlpamciafocaaGreatDoorMgAF
namespace Go.Proofs.YtlhlpamciafocaaGreatDoor.L
open Go.RowKit
set_option linter.unusedVariables false
set_option linter.unusedSimpArgs false
/-- A fault as plain data. -/
def f19 (c a : Int) : Array Value := #[.int .i64 c, .int .i64 a, .string ⟨#[]⟩, .int .i64 0, .int .i64 0, .int .i64 0, .string ⟨#[]⟩, .int .i64 0, .int .i64 0, .int .i64 0, .string ⟨#[]⟩, .int .i64 0, .int .i64 0, .int .i64 0, .string ⟨#[]⟩, .int .i64 0, .int .i64 0, .int .i64 0, .string ⟨#[]⟩]
theorem read_flt (N c : Nat) (a : Int) (w : World) (h : Fli w N c a) (h0 : c ≠ 0) : Calls Tryz.prog 16 #[fv N] w fun e w' => e = .returned (.agg (f19 c a)) ∧ Below w.heap.size w w' := read_yes N c a w h h0
/-- Every fault of Parse has a number. -/
theorem parR_code {src : ByteArray} {c : Nat} {x : Int} (h : parR src = .error (c, x)) : c ≠ 0 := by
  unfold parR at h
  cases hs : (scanT src).2 with
  | some q =>
    obtain ⟨c', a'⟩ := q
    rw [hs] at h
    simp only [Except.error.injEq, Prod.mk.injEq] at h
    have := scanT_codes hs
    omega
  | none =>
    rw [hs] at h
    simp only at h
    cases hw : wholeP (scanT src).1 16392 with
    | ok q => rw [hw] at h; cases h
    | error q =>
      rw [hw] at h
      simp only [Except.error.injEq] at h
      subst h
      exact whole_code hw (scan_fin2 hs).1 (scanT_len src)
end Go.Proofs.YtlhlpamciafocaaGreatDoor.L
namespace Go.Proofs.YtlhlpamciafocaaGreatDoor.L
open Go.RowKit
set_option linter.unusedVariables false
set_option linter.unusedSimpArgs false
/-- How many kids a part of this kind has. -/
def Ari (k : Int) (n : Nat) : Prop := ((k = 3 ∨ k = 8 ∨ k = 9 ∨ k = 19 ∨ k = 20) ∧ n = 1) ∨ ((k = 4 ∨ k = 5) ∧ 2 ≤ n) ∨ ((k = 6 ∨ k = 7) ∧ n = 2) ∨ (k = 13 ∧ n ≤ 64) ∨ ((k = 1 ∨ k = 2 ∨ k = 10 ∨ k = 11 ∨ k = 12 ∨ k = 14 ∨ k = 15 ∨ k = 16 ∨ k = 17 ∨ k = 18) ∧ n = 0)
/-- The token that stands for a part. -/
def BgT (k n : Int) (t : Tok) : Prop :=
  (t.kind = 4 ∧ ((k = 3 ∧ t.text.toList = [33]) ∨ (k = 4 ∧ t.text.toList = [38, 38]) ∨ (k = 5 ∧ t.text.toList = [124, 124]) ∨ (k = 13 ∧ t.text.toList = [123]) ∨ (k = 6 ∧ cmpO t.text.toList ≠ 0))) ∨
  (t.kind = 1 ∧ k = 11) ∨ (t.kind = 2 ∧ k = 12) ∨
  (t.kind = 3 ∧ ((k = 7 ∧ n = 0 ∧ t.text.toList = [105, 110]) ∨ (k = 7 ∧ n = 1 ∧ t.text.toList = [110, 111, 116, 105, 110]) ∨ (k = 1 ∧ t.text.toList = [116, 114, 117, 101]) ∨ (k = 2 ∧ t.text.toList = [102, 97, 108, 115, 101]) ∨ (k = 8 ∧ t.text.toList = [110, 101, 97, 114]) ∨ (k = 9 ∧ t.text.toList = [97, 112, 97, 114, 116]) ∨ (k = 10 ∧ t.text.toList = [116, 111, 108, 101, 114, 97, 116, 101, 100]) ∨ (k = 19 ∧ t.text.toList = [105, 110, 116]) ∨ (k = 20 ∧ t.text.toList = [99, 111, 117, 110, 116]) ∨
    ((k = 14 ∨ k = 15 ∨ k = 16 ∨ k = 17 ∨ k = 18) ∧ ((n = 2 ∧ t.text.toList = [110, 111, 100, 101]) ∨ (n = 1 ∧ t.text.toList = [112, 111, 100]) ∨ (n = 3 ∧ t.text.toList = [105, 116])))))
def Bgt (T : List Tok) (p : Pt) (x : Int) : Prop := ∃ i, x = ((tk T i).a : Int) ∧ BgT p.kind p.num (tk T i)
/-- A part is in its place. -/
def PlG (T : List Tok) (ps : List Pt) (j : Nat) (p : Pt) (x : Int) : Prop := p.kids.length ≤ (fre ps j).length ∧ p.kids = (fre ps j).drop ((fre ps j).length - p.kids.length) ∧ p.text.size ≤ 127 ∧ Ari p.kind p.kids.length ∧ Bgt T p x
structure Gs (T : List Tok) (fr : List Int) (s : PS) : Prop where
  len : s.os.length = s.ps.length
  fr : fre s.ps s.ps.length = fr
  ok : ∀ j, j < s.ps.length → PlG T s.ps j (pt s.ps j) (s.os.getD j 0)
theorem fre_app (ps : List Pt) (p : Pt) : ∀ j, j ≤ ps.length → fre (ps ++ [p]) j = fre ps j
  | 0, _ => rfl
  | j + 1, h => by
    simp only [fre]
    rw [fre_app ps p j (by omega), pt_app ps p (by omega)]
theorem Gs.put {T : List Tok} {fr kids : List Int} {s s' : PS} {p : Pt} {x r : Int} (h : Gs T (fr ++ kids) s) (e : putP s p x = .ok (r, s')) (hk : p.kids = kids) (ht : p.text.size ≤ 127) (ha : Ari p.kind kids.length) (hb : Bgt T p x) : Gs T (fr ++ [r]) s' := by
  unfold putP at e
  injection e with e
  injection e with e1 e2
  subst e1
  subst e2
  have hf := h.fr
  refine ⟨by simp [h.len], ?_, fun j hj => ?_⟩
  · show fre (s.ps ++ [p]) (s.ps ++ [p]).length = _
    rw [List.length_append, List.length_singleton]
    simp only [fre]
    rw [fre_app _ _ _ (Nat.le_refl _), pt_last, hf, hk, List.length_append, Nat.add_sub_cancel, List.take_left]
  · show PlG T (s.ps ++ [p]) j (pt (s.ps ++ [p]) j) ((s.os ++ [x]).getD j 0)
    have hj' : j < s.ps.length + 1 := by simpa using hj
    by_cases hl : j < s.ps.length
    · have := h.ok j hl
      unfold PlG at this ⊢
      rw [fre_app _ _ _ (by omega), pt_app _ _ hl]
      rw [show (s.os ++ [x]).getD j 0 = s.os.getD j 0 by rw [List.getD_eq_getElem?_getD, List.getD_eq_getElem?_getD, List.getElem?_append_left (by rw [h.len]; exact hl)]]
      exact this
    · have ej : j = s.ps.length := by omega
      subst ej
      unfold PlG
      rw [fre_app _ _ _ (Nat.le_refl _), pt_last, hf]
      rw [show (s.os ++ [x]).getD s.ps.length 0 = x by rw [← h.len, List.getD_eq_getElem?_getD, List.getElem?_append_right (Nat.le_refl _)]; simp]
      refine ⟨by rw [hk]; simp, ?_, ht, by rw [hk]; exact ha, hb⟩
      rw [hk, List.length_append, Nat.add_sub_cancel, List.drop_left]
theorem Gs.to {T : List Tok} {fr : List Int} {s s' : PS} (h : Gs T fr s) (hp : s'.ps = s.ps) (ho : s'.os = s.os) : Gs T fr s' := ⟨by rw [hp, ho]; exact h.len, by rw [hp]; exact h.fr, by rw [hp, ho]; exact h.ok⟩
theorem gs_adv {T : List Tok} {fr : List Int} {s : PS} (h : Gs T fr s) : Gs T fr (adv s) := h.to rfl rfl
theorem gs_mark {T : List Tok} {fr : List Int} {s s' : PS} {m : List UInt8} {u : Unit} (h : Gs T fr s) (e : markP T s m = .ok (u, s')) : Gs T fr s' := by rw [mark_ok e]; exact gs_adv h
theorem gs_text {T : List Tok} {fr : List Int} {s s' : PS} {t : ByteArray} (h : Gs T fr s) (e : textP T s = .ok (t, s')) : Gs T fr s' := by rw [text_ok e]; exact gs_adv h
theorem gs_open {T : List Tok} {fr : List Int} {s s' : PS} {m : List UInt8} {u : Unit} (h : Gs T fr s) (e : openP T s m = .ok (u, s')) : Gs T fr s' := by rw [open_ok e]; exact h.to rfl rfl
theorem gs_named {T : List Tok} {fr : List Int} {s s' : PS} {t : ByteArray} (h : Gs T fr s) (e : namedP T s = .ok (t, s')) : Gs T fr s' := by rw [named_ok e]; exact h.to rfl rfl
/-- Texts in quotes are short. -/
def Txt (T : List Tok) : Prop := ∀ i, (tk T i).kind = 1 → (tk T i).text.size ≤ 127
theorem text_len {T : List Tok} (hT : Txt T) {s s' : PS} {t : ByteArray} (e : textP T s = .ok (t, s')) : t.size ≤ 127 := by
  unfold textP at e
  split at e
  · rename_i h1
    injection e with e
    injection e with e1 _
    rw [← e1]
    exact hT _ h1
  · cases e
theorem named_len {T : List Tok} (hT : Txt T) {s s' : PS} {t : ByteArray} (e : namedP T s = .ok (t, s')) : t.size ≤ 127 := by
  unfold namedP at e
  obtain ⟨_, s1, _, e⟩ := bnd_inv e
  obtain ⟨t1, s2, e2, e⟩ := bnd_inv e
  obtain ⟨_, s3, _, e⟩ := bnd_inv e
  injection e with e
  injection e with e _
  rw [← e]
  exact text_len hT e2
def Fo (T : List Tok) (r : PS → PRes Int) : Prop := ∀ s fr k s', Gs T fr s → r s = .ok (k, s') → Gs T (fr ++ [k]) s'
theorem none0 : (⟨#[]⟩ : ByteArray).size ≤ 127 := by decide
theorem fo_el {T : List Tok} (hT : Txt T) {s s' : PS} {fr : List Int} {k : Int} (h : Gs T fr s) (h1 : isEl (tk T s.nx) = true) (e : elP T s = .ok (k, s')) : Gs T (fr ++ [k]) s' := by
  unfold elP at e
  have h0 : Gs T (fr ++ []) (adv s) := by rw [List.append_nil]; exact gs_adv h
  split at e
  · rename_i hk
    exact h0.put e rfl (hT _ hk) (Or.inr (Or.inr (Or.inr (Or.inr ⟨by simp, rfl⟩)))) ⟨s.nx, rfl, Or.inr (Or.inl ⟨hk, rfl⟩)⟩
  · rename_i hk
    have h2 : (tk T s.nx).kind = 2 := by unfold isEl at h1; simp at h1; omega
    exact h0.put e rfl none0 (Or.inr (Or.inr (Or.inr (Or.inr ⟨by simp, rfl⟩)))) ⟨s.nx, rfl, Or.inr (Or.inr (Or.inl ⟨h2, rfl⟩))⟩
theorem fo_mem {T : List Tok} (hT : Txt T) {s s' : PS} {fr : List Int} {k : Int} {n : Nat} (h : Gs T fr s) (e : memP T s n = .ok (k, s')) : Gs T (fr ++ [k]) s' ∧ n ≠ 64 := by
  unfold memP at e
  split at e
  · rename_i h1
    split at e
    · cases e
    · rename_i h2
      exact ⟨fo_el hT h h1 e, h2⟩
  · cases e
theorem fo_mems {T : List Tok} (hT : Txt T) : ∀ (n : Nat) {ks ks' : List Int} {s s' : PS} {fr : List Int}, Gs T (fr ++ ks) s → ks.length ≤ 64 → memsP T n ks s = .ok (ks', s') → Gs T (fr ++ ks') s' ∧ ks'.length ≤ 64
  | 0, ks, ks', s, s', fr, h, hl, e => by
    unfold memsP at e
    injection e with e; injection e with e1 e2; subst e1; subst e2
    exact ⟨h, hl⟩
  | n + 1, ks, ks', s, s', fr, h, hl, e => by
    unfold memsP at e
    split at e
    · obtain ⟨k, s1, e1, e2⟩ := bnd_inv e
      obtain ⟨h1, h2⟩ := fo_mem hT (gs_adv h) e1
      exact fo_mems hT n (by rw [← List.append_assoc]; exact h1) (by simp; omega) e2
    · injection e with e; injection e with e1 e2; subst e1; subst e2
      exact ⟨h, hl⟩
theorem fo_set {T : List Tok} (hT : Txt T) : Fo T (setP T) := by
  intro s fr k s' h e
  unfold setP at e
  obtain ⟨_, s1, e1, e⟩ := bnd_inv e
  obtain ⟨ks, s2, e2, e⟩ := bnd_inv e
  obtain ⟨ks', s3, e3, e⟩ := bnd_inv e
  obtain ⟨_, s4, e4, e⟩ := bnd_inv e
  have g1 := gs_mark h e1
  have g2 : Gs T (fr ++ ks) s2 ∧ ks.length ≤ 64 := by
    split at e2
    · injection e2 with e2; injection e2 with ea eb; subst ea; subst eb
      exact ⟨by rw [List.append_nil]; exact g1, by simp⟩
    · obtain ⟨k1, s5, e5, e6⟩ := bnd_inv e2
      injection e6 with e6; injection e6 with ea eb; subst ea; subst eb
      exact ⟨(fo_mem hT g1 e5).1, by simp⟩
  obtain ⟨g3, h3⟩ := fo_mems hT _ g2.1 g2.2 e3
  have hm : isM T s [123] = true := by
    unfold markP at e1
    split at e1
    · assumption
    · cases e1
  unfold isM at hm
  simp at hm
  exact (gs_mark g3 e4).put e rfl none0 (Or.inr (Or.inr (Or.inr (Or.inl ⟨rfl, h3⟩)))) ⟨s.nx, rfl, Or.inl ⟨hm.1, by simp [hm.2]⟩⟩
theorem fo_who {T : List Tok} (hT : Txt T) {s s' : PS} {fr : List Int} {k side : Int} (h : Gs T fr s) (h3 : (tk T s.nx).kind = 3) (hs : (side = 2 ∧ (tk T s.nx).text.toList = [110, 111, 100, 101]) ∨ (side = 1 ∧ (tk T s.nx).text.toList = [112, 111, 100]) ∨ (side = 3 ∧ (tk T s.nx).text.toList = [105, 116])) (e : whoP T s side = .ok (k, s')) : Gs T (fr ++ [k]) s' := by
  have hb : ∀ (kd : Int) (x : ByteArray), (kd = 14 ∨ kd = 15 ∨ kd = 16 ∨ kd = 17 ∨ kd = 18) → Bgt T ⟨kd, x, side, []⟩ ((tk T s.nx).a : Int) := fun kd x hk => ⟨s.nx, rfl, Or.inr (Or.inr (Or.inr ⟨h3, Or.inr (Or.inr (Or.inr (Or.inr (Or.inr (Or.inr (Or.inr (Or.inr (Or.inr ⟨hk, hs⟩))))))))⟩))⟩
  have ha : ∀ kd : Int, (kd = 14 ∨ kd = 15 ∨ kd = 16 ∨ kd = 17 ∨ kd = 18) → Ari kd ([] : List Int).length := fun kd hk => Or.inr (Or.inr (Or.inr (Or.inr ⟨by omega, rfl⟩)))
  have nl : ∀ {z : PS}, Gs T fr z → Gs T (fr ++ []) z := fun h => by rw [List.append_nil]; exact h
  unfold whoP at e
  split at e
  · obtain ⟨t, s1, e1, e⟩ := bnd_inv e
    obtain ⟨_, s2, e2, e⟩ := bnd_inv e
    exact (nl (gs_mark (gs_text (gs_adv (gs_adv h)) e1) e2)).put e rfl (text_len hT e1) (ha 14 (by simp)) (hb 14 t (by simp))
  · obtain ⟨_, s1, e1, e⟩ := bnd_inv e
    obtain ⟨kf, s2, e2, e⟩ := bnd_inv e
    have g2 : Gs T fr s2 ∧ (kf = 15 ∨ kf = 16 ∨ kf = 17 ∨ kf = 18) := by
      unfold fieldP at e2
      split at e2
      · cases e2
      · rename_i h0
        injection e2 with e2; injection e2 with ea eb; subst eb
        refine ⟨gs_adv (gs_mark (gs_adv h) e1), ?_⟩
        rw [← ea]
        unfold fieldO at h0 ⊢
        repeat' (split at h0)
        all_goals first | (exact absurd rfl h0) | (rename_i hx; simp_all) | simp_all
    split at e
    · obtain ⟨t, s3, e3, e⟩ := bnd_inv e
      exact (nl (gs_named g2.1 e3)).put e rfl (named_len hT e3) (ha 18 (by simp)) (hb 18 t (by simp))
    · exact (nl g2.1).put e rfl none0 (ha kf (by omega)) (hb kf _ (by omega))
end Go.Proofs.YtlhlpamciafocaaGreatDoor.L
namespace Go.Proofs.YtlhlpamciafocaaGreatDoor.L
open Go.RowKit Go.Shelf
set_option linter.unusedVariables false
set_option linter.unusedSimpArgs false
theorem isM_tok {T : List Tok} {s : PS} {m : List UInt8} (h : isM T s m = true) : (tk T s.nx).kind = 4 ∧ (tk T s.nx).text.toList = m := by
  unfold isM at h
  simpa using h
theorem open_tok {T : List Tok} {s s' : PS} {m : List UInt8} {u : Unit} (e : openP T s m = .ok (u, s')) : (tk T s.nx).kind = 4 ∧ (tk T s.nx).text.toList = m := by
  unfold openP at e
  split at e
  · rename_i h1
    exact isM_tok h1
  · cases e
section
variable {T : List Tok}
theorem fo_rows {one : PS → PRes Int} {m : List UInt8} (h1 : Fo T one) : ∀ (n : Nat) {ks ks' : List Int} {s s' : PS} {fr : List Int}, Gs T (fr ++ ks) s → rowsP T one m n ks s = .ok (ks', s') → Gs T (fr ++ ks') s' ∧ ks.length ≤ ks'.length ∧ (ks'.length ≠ ks.length → isM T s m = true)
  | 0, ks, ks', s, s', fr, h, e => by
    unfold rowsP at e
    injection e with e; injection e with e1 e2; subst e1; subst e2
    exact ⟨h, Nat.le_refl _, fun hn => absurd rfl hn⟩
  | n + 1, ks, ks', s, s', fr, h, e => by
    unfold rowsP at e
    split at e
    · rename_i hm
      obtain ⟨k, s1, e1, e2⟩ := bnd_inv e
      have h2 := h1 _ _ _ _ (gs_adv h) e1
      obtain ⟨g1, g2, _⟩ := fo_rows h1 n (by rw [← List.append_assoc]; exact h2) e2
      exact ⟨g1, by simp at g2; omega, fun _ => hm⟩
    · injection e with e; injection e with e1 e2; subst e1; subst e2
      exact ⟨h, Nat.le_refl _, fun hn => absurd rfl hn⟩
theorem rows_head {one : PS → PRes Int} {m : List UInt8} : ∀ (n : Nat) {k0 : Int} {ks ks' : List Int} {s s' : PS}, rowsP T one m n (k0 :: ks) s = .ok (ks', s') → ks'.head? = some k0
  | 0, k0, ks, ks', s, s', e => by
    unfold rowsP at e
    injection e with e; injection e with e1 e2; subst e1
    rfl
  | n + 1, k0, ks, ks', s, s', e => by
    unfold rowsP at e
    split at e
    · obtain ⟨k, s1, e1, e2⟩ := bnd_inv e
      exact rows_head n (ks := ks ++ [k]) e2
    · injection e with e; injection e with e1 e2; subst e1
      rfl
theorem fo_row {one : PS → PRes Int} {kd : Int} {m : List UInt8} (h1 : Fo T one) (hk : (kd = 4 ∧ m = [38, 38]) ∨ (kd = 5 ∧ m = [124, 124])) : Fo T (rowP T one kd m) := by
  intro s fr k s' h e
  unfold rowP at e
  obtain ⟨k0, s1, e1, e⟩ := bnd_inv e
  obtain ⟨ks, s2, e2, e⟩ := bnd_inv e
  obtain ⟨g1, g2, g3⟩ := fo_rows h1 _ (h1 _ _ _ _ h e1) e2
  split at e
  · rename_i hl
    injection e with e; injection e with ea eb; subst ea; subst eb
    have hks : ks = [k0] := by
      obtain ⟨y, hy⟩ := List.length_eq_one_iff.1 hl
      have := rows_head (T := T) (one := one) (m := m) 4097 e2
      rw [hy] at this ⊢
      simpa using this
    rw [hks] at g1
    exact g1
  · rename_i hl
    have hm := isM_tok (g3 (by simpa using hl))
    have g2 : 1 ≤ ks.length := g2
    exact g1.put e rfl none0 (Or.inr (Or.inl ⟨by rcases hk with ⟨rfl, _⟩ | ⟨rfl, _⟩ <;> simp, show 2 ≤ ks.length by omega⟩)) ⟨s1.nx, rfl, Or.inl ⟨hm.1, by
      rcases hk with ⟨rfl, rfl⟩ | ⟨rfl, rfl⟩
      · exact Or.inr (Or.inl ⟨rfl, hm.2⟩)
      · exact Or.inr (Or.inr (Or.inl ⟨rfl, hm.2⟩))⟩⟩
theorem fo_with {inner : PS → PRes Int} (h1 : Fo T inner) : Fo T (withP T inner) := by
  intro s fr k s' h e
  unfold withP at e
  obtain ⟨_, s1, e1, e⟩ := bnd_inv e
  obtain ⟨k2, s2, e2, e⟩ := bnd_inv e
  obtain ⟨_, s3, e3, e⟩ := bnd_inv e
  injection e with e; injection e with ea eb; subst ea; subst eb
  exact (gs_mark (h1 _ _ _ _ (gs_open h e1) e2) e3).to rfl rfl
theorem fo_sel (hT : Txt T) {ex : PS → PRes Int} (h1 : Fo T ex) {s s' : PS} {fr : List Int} {k kd : Int} (h : Gs T fr s) (h3 : (tk T s.nx).kind = 3) (hw : (kd = 8 ∧ (tk T s.nx).text.toList = [110, 101, 97, 114]) ∨ (kd = 9 ∧ (tk T s.nx).text.toList = [97, 112, 97, 114, 116]) ∨ (kd = 20 ∧ (tk T s.nx).text.toList = [99, 111, 117, 110, 116])) (e : selP T ex kd s = .ok (k, s')) : Gs T (fr ++ [k]) s' := by
  unfold selP at e
  obtain ⟨q, s5, e5, e⟩ := bnd_inv e
  unfold withP at e5
  obtain ⟨_, s1, e1, e5⟩ := bnd_inv e5
  obtain ⟨q2, s2, e2, e5⟩ := bnd_inv e5
  obtain ⟨_, s3, e3, e5⟩ := bnd_inv e5
  injection e5 with e5; injection e5 with ea eb; subst ea; subst eb
  obtain ⟨t, z2, f1, e2⟩ := bnd_inv e2
  obtain ⟨_, z3, f2, e2⟩ := bnd_inv e2
  obtain ⟨kk, z4, f3, e2⟩ := bnd_inv e2
  injection e2 with e2; injection e2 with ea eb; subst ea; subst eb
  have g := (gs_mark (h1 _ _ _ _ (gs_mark (gs_text (gs_open (gs_adv h) e1) f1) f2) f3) e3).to (s' := shutP s3) rfl rfl
  exact g.put e rfl (text_len hT f1) (Or.inl ⟨by rcases hw with ⟨rfl, _⟩ | ⟨rfl, _⟩ | ⟨rfl, _⟩ <;> simp, rfl⟩) ⟨s.nx, rfl, Or.inr (Or.inr (Or.inr ⟨h3, by
    rcases hw with ⟨rfl, hw⟩ | ⟨rfl, hw⟩ | ⟨rfl, hw⟩ <;> simp [hw]⟩))⟩
theorem fo_neg {un : PS → PRes Int} (h1 : Fo T un) : Fo T (negP T un) := by
  intro s fr k s' h e
  unfold negP at e
  obtain ⟨_, s1, e1, e⟩ := bnd_inv e
  obtain ⟨k2, s2, e2, e⟩ := bnd_inv e
  have hm := open_tok e1
  exact ((h1 _ _ _ _ (gs_open h e1) e2).to (s' := shutP s2) rfl rfl).put e rfl none0 (Or.inl ⟨by simp, rfl⟩) ⟨s.nx, rfl, Or.inl ⟨hm.1, Or.inl ⟨rfl, hm.2⟩⟩⟩
theorem fo_comp {te : PS → PRes Int} (h1 : Fo T te) : Fo T (compP T te) := by
  intro s fr k s' h e
  unfold compP at e
  obtain ⟨l, s1, e1, e⟩ := bnd_inv e
  have g1 := h1 _ _ _ _ h e1
  cases hb : betO (tk T s1.nx) with
  | none => rw [hb] at e; cases e
  | some q =>
    obtain ⟨kd, nu⟩ := q
    rw [hb] at e
    simp only at e
    obtain ⟨r, s2, e2, e⟩ := bnd_inv e
    have g2 := h1 _ _ _ _ (gs_adv g1) e2
    rw [List.append_assoc] at g2
    have hbt : BgT kd nu (tk T s1.nx) ∧ (kd = 6 ∨ kd = 7) := by
      unfold betO at hb
      split at hb
      · rename_i h4
        split at hb
        · cases hb
        · rename_i hc
          injection hb with hb; injection hb with ea eb; subst ea
          exact ⟨Or.inl ⟨h4, Or.inr (Or.inr (Or.inr (Or.inr ⟨rfl, hc⟩)))⟩, Or.inl rfl⟩
      · split at hb
        · rename_i h3
          split at hb
          · rename_i ht
            injection hb with hb; injection hb with ea eb; subst ea; subst eb
            exact ⟨Or.inr (Or.inr (Or.inr ⟨h3, Or.inl ⟨rfl, rfl, ht⟩⟩)), Or.inr rfl⟩
          · split at hb
            · rename_i ht
              injection hb with hb; injection hb with ea eb; subst ea; subst eb
              exact ⟨Or.inr (Or.inr (Or.inr ⟨h3, Or.inr (Or.inl ⟨rfl, rfl, ht⟩)⟩)), Or.inr rfl⟩
            · cases hb
        · cases hb
    exact g2.put e rfl none0 (Or.inr (Or.inr (Or.inl ⟨hbt.2, rfl⟩))) ⟨s1.nx, rfl, hbt.1⟩
theorem fo_const {s s' : PS} {fr : List Int} {k kd : Int} (h : Gs T fr s) (h3 : (tk T s.nx).kind = 3) (hw : (kd = 1 ∧ (tk T s.nx).text.toList = [116, 114, 117, 101]) ∨ (kd = 2 ∧ (tk T s.nx).text.toList = [102, 97, 108, 115, 101])) (e : constP T s kd = .ok (k, s')) : Gs T (fr ++ [k]) s' := by
  unfold constP at e
  have h0 : Gs T (fr ++ []) (adv s) := by rw [List.append_nil]; exact gs_adv h
  exact h0.put e rfl none0 (Or.inr (Or.inr (Or.inr (Or.inr ⟨by rcases hw with ⟨rfl, _⟩ | ⟨rfl, _⟩ <;> simp, rfl⟩)))) ⟨s.nx, rfl, Or.inr (Or.inr (Or.inr ⟨h3, by rcases hw with ⟨rfl, hw⟩ | ⟨rfl, hw⟩ <;> simp [hw]⟩))⟩
theorem fo_tol (hT : Txt T) {s s' : PS} {fr : List Int} {k : Int} (h : Gs T fr s) (h3 : (tk T s.nx).kind = 3) (hw : (tk T s.nx).text.toList = [116, 111, 108, 101, 114, 97, 116, 101, 100]) (e : tolP T s = .ok (k, s')) : Gs T (fr ++ [k]) s' := by
  unfold tolP at e
  obtain ⟨t, s1, e1, e⟩ := bnd_inv e
  have h0 : Gs T (fr ++ []) s1 := by rw [List.append_nil]; exact gs_named (gs_adv h) e1
  exact h0.put e rfl (named_len hT e1) (Or.inr (Or.inr (Or.inr (Or.inr ⟨by simp, rfl⟩)))) ⟨s.nx, rfl, Or.inr (Or.inr (Or.inr ⟨h3, by simp [hw]⟩))⟩
theorem fo_atom (hT : Txt T) {ex te : PS → PRes Int} (h1 : Fo T ex) (h2 : Fo T te) : Fo T (atomP T ex te) := by
  intro s fr k s' h e
  unfold atomP at e
  split at e
  · rename_i h3
    split at e
    · rename_i hw; exact fo_const h h3 (Or.inl ⟨rfl, hw⟩) e
    · split at e
      · rename_i hw; exact fo_const h h3 (Or.inr ⟨rfl, hw⟩) e
      · split at e
        · rename_i hw; exact fo_sel hT h1 h h3 (Or.inl ⟨rfl, hw⟩) e
        · split at e
          · rename_i hw; exact fo_sel hT h1 h h3 (Or.inr (Or.inl ⟨rfl, hw⟩)) e
          · split at e
            · rename_i hw; exact fo_tol hT h h3 hw e
            · exact fo_comp h2 _ _ _ _ h e
  · exact fo_comp h2 _ _ _ _ h e
theorem fo_word (hT : Txt T) {ex te : PS → PRes Int} (h1 : Fo T ex) (h2 : Fo T te) {s s' : PS} {fr : List Int} {k : Int} (h : Gs T fr s) (h3 : (tk T s.nx).kind = 3) (e : wordP T ex te s = .ok (k, s')) : Gs T (fr ++ [k]) s' := by
  unfold wordP at e
  split at e
  · rename_i hw; exact fo_who hT h h3 (Or.inl ⟨rfl, hw⟩) e
  · split at e
    · rename_i hw; exact fo_who hT h h3 (Or.inr (Or.inl ⟨rfl, hw⟩)) e
    · split at e
      · rename_i hw; exact fo_who hT h h3 (Or.inr (Or.inr ⟨rfl, hw⟩)) e
      · split at e
        · rename_i hw
          obtain ⟨r, s1, e1, e⟩ := bnd_inv e
          exact (fo_with h2 _ _ _ _ (gs_adv h) e1).put e rfl none0 (Or.inl ⟨by simp, rfl⟩) ⟨s.nx, rfl, Or.inr (Or.inr (Or.inr ⟨h3, by simp [hw]⟩))⟩
        · split at e
          · rename_i hw; exact fo_sel hT h1 h h3 (Or.inr (Or.inr ⟨rfl, hw⟩)) e
          · cases e
theorem fo_gr (hT : Txt T) : ∀ (n : Nat) (g : Gr), Fo T (gr T n g)
  | 0, g => fun s fr k s' _ e => by unfold gr at e; cases e
  | n + 1, .expr => fo_row (fo_gr hT n .conj) (Or.inr ⟨rfl, rfl⟩)
  | n + 1, .conj => fo_row (fo_gr hT n .unit) (Or.inl ⟨rfl, rfl⟩)
  | n + 1, .unit => fun s fr k s' h e => by
    unfold gr unitP at e
    split at e
    · exact fo_neg (fo_gr hT n .unit) _ _ _ _ h e
    · split at e
      · exact fo_with (fo_gr hT n .expr) _ _ _ _ h e
      · exact fo_atom hT (fo_gr hT n .expr) (fo_gr hT n .term) _ _ _ _ h e
  | n + 1, .term => fun s fr k s' h e => by
    unfold gr termP at e
    split at e
    · rename_i h1; exact fo_el hT h h1 e
    · split at e
      · exact fo_set hT _ _ _ _ h e
      · split at e
        · rename_i h3; exact fo_word hT (fo_gr hT n .expr) (fo_gr hT n .term) h h3 e
        · cases e
end
end Go.Proofs.YtlhlpamciafocaaGreatDoor.L
namespace Go.Proofs.YtlhlpamciafocaaGreatDoor.L
open Go.RowKit Go.Shelf
set_option linter.unusedVariables false
theorem txS_at (s : ByteArray) (f : Nat) (hf : f < s.size) : ∀ (n k : Nat) (l : List UInt8), s.size - k = n → ∀ c a, txS s f k l = .bad c a → a < s.size := by
  intro n
  induction n using Nat.strongRecOn with
  | ind n ih =>
    intro k l hn c0 a0 h
    by_cases hlt : k < s.size
    · by_cases c : bt s k = 34
      · rw [txS_q s f k l hlt c] at h
        split at h
        · obtain ⟨_, rfl⟩ := TR.bad.inj h
          exact hf
        · exact TR.noConfusion h
      · by_cases d : bt s k = 92
        · by_cases e0 : (esc3 s k).2 = 0
          · rw [txS_e0 s f k l hlt d e0] at h
            obtain ⟨_, rfl⟩ := TR.bad.inj h
            exact hlt
          · rw [txS_e s f k l hlt d e0] at h
            exact ih (s.size - (k + (esc3 s k).2)) (by omega) _ _ rfl c0 a0 h
        · by_cases e0 : iv (bt s k) < 32
          · rw [txS_low s f k l hlt c d e0] at h
            obtain ⟨_, rfl⟩ := TR.bad.inj h
            exact hlt
          · rw [txS_go s f k l hlt c d e0] at h
            exact ih (s.size - (k + 1)) (by omega) _ _ rfl c0 a0 h
    · rw [txS_end s f k l hlt] at h
      obtain ⟨_, rfl⟩ := TR.bad.inj h
      exact hf
theorem tok_at {s : ByteArray} {k c a : Nat} (hk : k < s.size) (h : tokS s k = .bad c a) : a < s.size := by
  unfold tokS at h
  split at h
  · cases hx : txS s k (k + 1) [] with
    | bad c' a' => rw [hx] at h; obtain ⟨_, rfl⟩ := RR.bad.inj h; exact txS_at s k hk _ (k + 1) [] rfl _ _ hx
    | ok l e => rw [hx] at h; exact RR.noConfusion h
  · split at h
    · unfold numTok at h
      split at h
      · obtain ⟨_, rfl⟩ := RR.bad.inj h; exact hk
      · exact RR.noConfusion h
    · split at h
      · exact RR.noConfusion h
      · unfold markS at h
        split at h
        · exact RR.noConfusion h
        · split at h
          · exact RR.noConfusion h
          · obtain ⟨_, rfl⟩ := RR.bad.inj h; exact hk
theorem scan_at (s : ByteArray) : ∀ (n k : Nat), s.size - k = n → ∀ c a, (scanS s k).2 = some (c, a) → a < s.size := by
  intro n
  induction n using Nat.strongRecOn with
  | ind n ih =>
    intro k hn c a h
    by_cases hl : gapS s k < s.size
    · cases ht : tokS s (gapS s k) with
      | bad c' a' =>
        rw [scan_bad hl ht] at h
        have := Option.some.inj h
        cases this
        exact tok_at hl ht
      | ok t =>
        rw [scan_go hl ht] at h
        have h1 := tok_in hl ht
        have h2 := gapS_ge s k
        exact ih (s.size - t.e) (by omega) t.e rfl c a h
    · rw [scan_fin hl] at h
      cases h
end Go.Proofs.YtlhlpamciafocaaGreatDoor.L
