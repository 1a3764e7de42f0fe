import Derived.Test.YtcldglilhhhdoaaGreatDoorMgAQ
namespace Go.Proofs.YtcldglilhhhdoaaGreatDoor.L
open Go.RowKit
set_option linter.unusedVariables false
set_option linter.unusedSimpArgs false
/-- How many parts a thing that is awaited may still lay without a token of its own. -/
def wt (k : Int) : Nat := if k = 1 then 2 else if k = 2 ∨ k = 3 ∨ k = 4 ∨ k = 9 ∨ k = 10 ∨ k = 11 then 1 else 0
def wts : List Wn → Nat
 | [] => 0
 | w :: ws => wt w.w + wts ws
/-- Whether a thing that is awaited shuts one nest. -/
def c8 (k : Int) : Nat := if k = 8 ∨ k = 9 then 1 else 0
def cn : List Wn → Nat
 | [] => 0
 | w :: ws => c8 w.w + cn ws
def ly (k : Int) : Bool := decide (k = 2 ∨ k = 4 ∨ k = 7 ∨ k = 9 ∨ k = 10 ∨ k = 11)
/-- The places from which parts are gathered lie one below the other. -/
def Bs : List Wn → Nat → Prop
 | [], _ => True
 | w :: ws, n => w.base ≤ n ∧ Bs ws (if ly w.w = true then w.base else n)
theorem Bs.mono : ∀ {ws : List Wn} {n m : Nat}, Bs ws n → n ≤ m → Bs ws m
 | [], _, _, _, _ => trivial
 | w :: ws, n, m, h, hm => by
  refine ⟨Nat.le_trans h.1 hm, ?_⟩
  have h2 := h.2
  by_cases hl : ly w.w = true
  ·rw [if_pos hl] at h2 ⊢; exact h2
  ·rw [if_neg hl] at h2 ⊢; exact h2.mono hm
theorem Bs.pop {w : Wn} {ws : List Wn} {n : Nat} (h : Bs (w :: ws) n) : Bs ws n := by
 have h2 := h.2
 by_cases hl : ly w.w = true
 ·rw [if_pos hl] at h2; exact h2.mono h.1
 ·rw [if_neg hl] at h2; exact h2
theorem Bs.base {w : Wn} {ws : List Wn} {n : Nat} (h : Bs (w :: ws) n) (hl : ly w.w = true) : Bs ws w.base := by
 have h2 := h.2
 rw [if_pos hl] at h2; exact h2
theorem wts_app : ∀ (a b : List Wn), wts (a ++ b) = wts a + wts b
 | [], b => by simp [wts]
 | w :: a, b => by rw [List.cons_append, wts, wts, wts_app a b]; omega
theorem cn_app : ∀ (a b : List Wn), cn (a ++ b) = cn a + cn b
 | [], b => by simp [cn]
 | w :: a, b => by rw [List.cons_append, cn, cn, cn_app a b]; omega
/-- What bounds the machine's lists. -/
structure Bi (ws : List Wn) (s : PS) (fr : List Int) : Prop where
 len : s.os.length = s.ps.length
 fp : fr.length ≤ s.ps.length
 pot : s.ps.length + wts ws ≤ 3 * s.nx + 2
 bs : Bs ws fr.length
 ns : s.ns = cn ws
theorem Bi.first : Bi [awt 1, awt 12] ⟨0, 0, [], []⟩ [] := ⟨rfl, Nat.le_refl _, by decide, ⟨by decide, by decide, trivial⟩, by decide⟩
theorem Bi.push {k : Nat} {w : Wn} {ws ps : List Wn} {s s' : PS} {fr : List Int} (h : Bi (w :: ws) s fr) (hp : s'.ps = s.ps) (ho : s'.os = s.os) (hn : s.nx + k ≤ s'.nx) (hw : wts ps ≤ wt w.w + 3 * k) (hb : Bs (ps ++ ws) fr.length) (hs : s'.ns + c8 w.w = s.ns + cn ps) : Bi (ps ++ ws) s' fr := by
 have h1 := h.pot
 have h2 := h.ns
 rw [wts] at h1
 rw [cn] at h2
 exact ⟨by rw [hp, ho]; exact h.len, by rw [hp]; exact h.fp, by rw [hp, wts_app]; omega, hb, by rw [cn_app]; omega⟩
theorem bi_lv {w : Wn} {ws ps : List Wn} {s s' : PS} {fr fr' : List Int} {p : PRes Int} (h : Bi (w :: ws) s fr) (h8 : c8 w.w = 0) (hg : ∀ k s', p = .ok (k, s') → Gn 0 1 0 s s') (e : lv fr p = .ok ((ps, fr'), s')) : Bi (ps ++ ws) s' fr' := by
 unfold lv at e
 obtain ⟨k, s1, e1, e2⟩ := bnd_inv e
 injection e2 with e2
 injection e2 with e3 e4
 injection e3 with e5 e6
 subst e4 e5 e6
 have g := hg _ _ e1
 have h1 := g.pl; have h2 := g.ps; have h3 := g.os; have h4 := h.len; have h5 := h.fp; have h6 := h.pot; have h7 := h.ns; have h9 := g.ns
 rw [wts] at h6
 rw [cn] at h7
 exact ⟨by omega, by rw [List.length_append, List.length_singleton]; omega, by rw [List.nil_append]; omega, h.bs.pop.mono (by rw [List.length_append]; omega), by rw [List.nil_append]; omega⟩
theorem bi_lay {w : Wn} {ws ps : List Wn} {s s0 s' : PS} {fr fr' : List Int} {kd nu pos : Int} {tx : ByteArray} (h : Bi (w :: ws) s fr) (hp : s0.ps = s.ps) (ho : s0.os = s.os) (hn : s0.nx = s.nx) (hs : s0.ns + c8 w.w = s.ns) (hw : 1 ≤ wt w.w) (hl : ly w.w = true) (e : layM s0 fr kd tx nu pos w.base = .ok ((ps, fr'), s')) : Bi (ps ++ ws) s' fr' := by
 unfold layM putP at e
 injection e with e2
 injection e2 with e3 e4
 injection e3 with e5 e6
 subst e4 e5 e6
 have h4 := h.len; have h5 := h.fp; have h6 := h.pot; have h7 := h.bs.1; have h8 := h.ns
 rw [wts] at h6
 rw [cn] at h8
 refine ⟨by simp only [List.length_append, List.length_singleton, hp, ho, h4], ?_, ?_, ?_, ?_⟩
 ·simp only [List.length_append, List.length_take, List.length_singleton, hp]; omega
 ·simp only [List.length_append, List.length_singleton, hp, hn, List.nil_append]; omega
 ·refine (h.bs.base hl).mono ?_
  simp only [List.length_append, List.length_take, List.length_singleton]; omega
 ·simp only [List.nil_append]; omega
theorem bi_sel {T : List Tok} {w : Wn} {ws ps : List Wn} {s s' : PS} {fr fr' : List Int} {kd : Int} (h : Bi (w :: ws) s fr) (h8 : c8 w.w = 0) (e : selM T kd s fr = .ok ((ps, fr'), s')) : Bi (ps ++ ws) s' fr' := by
 unfold selM at e
 obtain ⟨_, s1, e1, e⟩ := bnd_inv e
 obtain ⟨t, s2, e2, e⟩ := bnd_inv e
 obtain ⟨_, s3, e3, e⟩ := bnd_inv e
 injection e with e
 injection e with e4 e5
 injection e4 with e6 e7
 subst e5 e6 e7
 have a1 := open_ok e1; have a2 := text_ok e2; have a3 := mark_ok e3
 subst a3 a2 a1
 exact h.push (k := 4) rfl rfl (by simp only [adv]; omega) (by show 3 ≤ _; omega) ⟨Nat.zero_le _, Nat.zero_le _, Nat.le_refl _, h.bs.pop⟩ (by rw [h8]; rfl)
theorem bi_cmp {w : Wn} {ws ps : List Wn} {s s' : PS} {fr fr' : List Int} (h : Bi (w :: ws) s fr) (h8 : c8 w.w = 0) (e : cmpM s fr = .ok ((ps, fr'), s')) : Bi (ps ++ ws) s' fr' := by
 unfold cmpM at e
 injection e with e
 injection e with e4 e5
 injection e4 with e6 e7
 subst e5 e6 e7
 exact h.push (k := 0) rfl rfl (Nat.le_refl _) (by show 0 ≤ _; omega) ⟨Nat.zero_le _, Nat.le_refl _, h.bs.pop⟩ (by rw [h8]; rfl)
theorem bi_unit {T : List Tok} {w : Wn} {ws ps : List Wn} {s s' : PS} {fr fr' : List Int} (h : Bi (w :: ws) s fr) (h8 : c8 w.w = 0) (e : unitM T s fr = .ok ((ps, fr'), s')) : Bi (ps ++ ws) s' fr' := by
 unfold unitM at e
 split at e
 ·obtain ⟨_, s1, e1, e⟩ := bnd_inv e
  injection e with e
  injection e with e4 e5
  injection e4 with e6 e7
  subst e5 e6 e7
  have a1 := open_ok e1
  subst a1
  exact h.push (k := 1) rfl rfl (by simp only [adv]; omega) (by show 1 ≤ _; omega) ⟨Nat.zero_le _, Nat.le_refl _, h.bs.pop⟩ (by rw [h8]; rfl)
 ·split at e
  ·obtain ⟨_, s1, e1, e⟩ := bnd_inv e
   injection e with e
   injection e with e4 e5
   injection e4 with e6 e7
   subst e5 e6 e7
   have a1 := open_ok e1
   subst a1
   exact h.push (k := 1) rfl rfl (by simp only [adv]; omega) (by show 2 ≤ _; omega) ⟨Nat.zero_le _, Nat.zero_le _, h.bs.pop⟩ (by rw [h8]; rfl)
  ·split at e
   ·split at e
    ·exact bi_lv h h8 (fun _ _ => gn_const) e
    ·split at e
     ·exact bi_lv h h8 (fun _ _ => gn_const) e
     ·split at e
      ·exact bi_sel h h8 e
      ·split at e
       ·exact bi_sel h h8 e
       ·split at e
        ·exact bi_lv h h8 (fun _ _ => gn_tol) e
        ·exact bi_cmp h h8 e
   ·exact bi_cmp h h8 e
theorem bi_term {T : List Tok} {w : Wn} {ws ps : List Wn} {s s' : PS} {fr fr' : List Int} (h : Bi (w :: ws) s fr) (h8 : c8 w.w = 0) (e : termM T s fr = .ok ((ps, fr'), s')) : Bi (ps ++ ws) s' fr' := by
 unfold termM at e
 split at e
 ·exact bi_lv h h8 (fun _ _ => gn_el) e
 ·split at e
  ·exact bi_lv h h8 (fun _ _ => gn_set) e
  ·split at e
   ·split at e
    ·exact bi_lv h h8 (fun _ _ => gn_who) e
    ·split at e
     ·exact bi_lv h h8 (fun _ _ => gn_who) e
     ·split at e
      ·exact bi_lv h h8 (fun _ _ => gn_who) e
      ·split at e
       ·obtain ⟨_, s1, e1, e⟩ := bnd_inv e
        injection e with e
        injection e with e4 e5
        injection e4 with e6 e7
        subst e5 e6 e7
        have a1 := open_ok e1
        subst a1
        exact h.push (k := 1) rfl rfl (by simp only [adv]; omega) (by show 1 ≤ _; omega) ⟨Nat.zero_le _, Nat.zero_le _, Nat.le_refl _, h.bs.pop⟩ (by rw [h8]; rfl)
       ·split at e
        ·exact bi_sel h h8 e
        ·cases e
   ·cases e
theorem bi_rel {T : List Tok} {w : Wn} {ws ps : List Wn} {s s' : PS} {fr fr' : List Int} (h : Bi (w :: ws) s fr) (hw : w.w = 7) (e : relM T w.base s fr = .ok ((ps, fr'), s')) : Bi (ps ++ ws) s' fr' := by
 unfold relM at e
 split at e
 ·cases e
 ·injection e with e
  injection e with e4 e5
  injection e4 with e6 e7
  subst e5 e6 e7
  exact h.push (k := 1) rfl rfl (Nat.le_refl _) (by show 1 ≤ _; omega) ⟨Nat.zero_le _, h.bs.1, h.bs.base (by rw [hw]; rfl)⟩ (by rw [hw]; rfl)
theorem bi_list {T : List Tok} {w : Wn} {ws ps : List Wn} {s s' : PS} {fr fr' : List Int} {m : List UInt8} {nxt : Int} (h : Bi (w :: ws) s fr) (hw : w.w = 2 ∧ nxt = 3 ∨ w.w = 4 ∧ nxt = 5) (e : listM T w m nxt s fr = .ok ((ps, fr'), s')) : Bi (ps ++ ws) s' fr' := by
 have h1 : ly w.w = true := by rcases hw with ⟨h, _⟩ | ⟨h, _⟩ <;> rw [h] <;> rfl
 have h2 : c8 w.w = 0 := by rcases hw with ⟨h, _⟩ | ⟨h, _⟩ <;> rw [h] <;> rfl
 have h3 : wt w.w = 1 := by rcases hw with ⟨h, _⟩ | ⟨h, _⟩ <;> rw [h] <;> rfl
 have h4 : wt nxt ≤ 1 := by rcases hw with ⟨_, h⟩ | ⟨_, h⟩ <;> rw [h] <;> decide
 have h5 : c8 nxt = 0 := by rcases hw with ⟨_, h⟩ | ⟨_, h⟩ <;> rw [h] <;> rfl
 have h6 : ly nxt = false := by rcases hw with ⟨_, h⟩ | ⟨_, h⟩ <;> rw [h] <;> rfl
 unfold listM at e
 split at e
 ·injection e with e
  injection e with e4 e5
  injection e4 with e6 e7
  subst e5 e6 e7
  refine h.push (k := 1) rfl rfl (Nat.le_refl _) (by show wt nxt + (wt w.w + 0) ≤ _; omega) ⟨Nat.zero_le _, ?_⟩ (by show s.ns + c8 w.w = s.ns + (c8 nxt + (c8 w.w + 0)); omega)
  show Bs (⟨w.w, w.kd, if w.pos < 0 then ((tk T s.nx).a : Int) else w.pos, w.text, w.num, w.base⟩ :: ws) (if ly nxt = true then 0 else fr.length)
  rw [h6]
  simp only [Bool.false_eq_true, if_false]
  refine ⟨h.bs.1, ?_⟩
  show Bs ws (if ly w.w = true then w.base else fr.length)
  rw [if_pos h1]
  exact h.bs.base h1
 ·split at e
  ·exact bi_lay h rfl rfl rfl (by omega) (by omega) h1 e
  ·injection e with e
   injection e with e4 e5
   injection e4 with e6 e7
   subst e5 e6 e7
   exact h.push (k := 0) rfl rfl (Nat.le_refl _) (by show 0 ≤ _; omega) h.bs.pop (by show s.ns + _ = s.ns + 0; omega)
/-- A step keeps the bounds. -/
theorem bi_step {T : List Tok} {w : Wn} {ws ps : List Wn} {s s' : PS} {fr fr' : List Int} (h : Bi (w :: ws) s fr) (e : stepM T w s fr = .ok ((ps, fr'), s')) : Bi (ps ++ ws) s' fr' := by
 unfold stepM at e
 by_cases h1 : w.w = 1
 ·rw [if_pos h1] at e
  injection e with e
  injection e with e4 e5
  injection e4 with e6 e7
  subst e5 e6 e7
  exact h.push (k := 0) rfl rfl (Nat.le_refl _) (by rw [h1]; show 2 ≤ 2 + 3 * 0; decide) ⟨Nat.zero_le _, Nat.le_refl _, h.bs.pop⟩ (by rw [h1]; rfl)
 rw [if_neg h1] at e
 by_cases h3 : w.w = 3
 ·rw [if_pos h3] at e
  injection e with e
  injection e with e4 e5
  injection e4 with e6 e7
  subst e5 e6 e7
  exact h.push (k := 0) rfl rfl (Nat.le_refl _) (by rw [h3]; show 1 ≤ 1 + 3 * 0; decide) ⟨Nat.zero_le _, Nat.le_refl _, h.bs.pop⟩ (by rw [h3]; rfl)
 rw [if_neg h3] at e
 by_cases h2 : w.w = 2
 ·rw [if_pos h2] at e
  exact bi_list h (Or.inl ⟨h2, rfl⟩) e
 rw [if_neg h2] at e
 by_cases h4 : w.w = 4
 ·rw [if_pos h4] at e
  exact bi_list h (Or.inr ⟨h4, rfl⟩) e
 rw [if_neg h4] at e
 by_cases h5 : w.w = 5
 ·rw [if_pos h5] at e
  exact bi_unit h (by rw [h5]; rfl) e
 rw [if_neg h5] at e
 by_cases h6 : w.w = 6
 ·rw [if_pos h6] at e
  exact bi_term h (by rw [h6]; rfl) e
 rw [if_neg h6] at e
 by_cases h7 : w.w = 7
 ·rw [if_pos h7] at e
  exact bi_rel h h7 e
 rw [if_neg h7] at e
 by_cases h8 : w.w = 8
 ·rw [if_pos h8] at e
  obtain ⟨_, s1, e1, e⟩ := bnd_inv e
  injection e with e
  injection e with e4 e5
  injection e4 with e6 e7
  subst e5 e6 e7
  have a1 := mark_ok e1
  subst a1
  have hn := h.ns
  rw [cn, h8] at hn
  exact h.push (k := 0) rfl rfl (by simp only [adv, shutP]; omega) (by show 0 ≤ _; omega) h.bs.pop (by rw [h8]; simp only [adv, shutP, c8, cn] at hn ⊢; simp at hn ⊢; omega)
 rw [if_neg h8] at e
 by_cases h9 : w.w = 9
 ·rw [if_pos h9] at e
  have hn := h.ns
  rw [cn, h9] at hn
  exact bi_lay (s0 := shutP s) h rfl rfl rfl (by rw [h9]; show s.ns - 1 + 1 = s.ns; have h11 : c8 9 = 1 := rfl; omega) (by rw [h9]; decide) (by rw [h9]; rfl) e
 rw [if_neg h9] at e
 by_cases h10 : w.w = 10 ∨ w.w = 11
 ·rw [if_pos h10] at e
  exact bi_lay h rfl rfl rfl (by rcases h10 with h | h <;> rw [h] <;> rfl) (by rcases h10 with h | h <;> rw [h] <;> decide) (by rcases h10 with h | h <;> rw [h] <;> rfl) e
 rw [if_neg h10] at e
 have h8' : c8 w.w = 0 := by unfold c8; rw [if_neg (by omega)]
 by_cases h12 : w.w = 12
 ·rw [if_pos h12] at e
  split at e
  ·injection e with e
   injection e with e4 e5
   injection e4 with e6 e7
   subst e5 e6 e7
   exact h.push (k := 0) rfl rfl (Nat.le_refl _) (by show 0 ≤ _; omega) h.bs.pop (by rw [h8']; rfl)
  ·cases e
 rw [if_neg h12] at e
 injection e with e
 injection e with e4 e5
 injection e4 with e6 e7
 subst e5 e6 e7
 exact h.push (k := 0) rfl rfl (Nat.le_refl _) (by show 0 ≤ _; omega) h.bs.pop (by rw [h8']; rfl)
/-- No fault without a number. -/
theorem nz_sel' (T : List Tok) (kd : Int) (s : PS) (fr : List Int) : Nz (selM T kd s fr) := nz_bnd (nz_open _ _ _) fun _ _ _ => nz_bnd (nz_text _ _) fun _ _ _ => nz_bnd (nz_mark _ _ _) fun _ _ _ => nz_ok _
theorem nz_lv {fr : List Int} {p : PRes Int} (h : Nz p) : Nz (lv fr p) := nz_bnd h fun _ _ _ => nz_ok _
theorem nz_lay (s : PS) (fr : List Int) (kd nu pos : Int) (tx : ByteArray) (b : Nat) : Nz (layM s fr kd tx nu pos b) := nz_bnd (nz_put _ _ _) fun _ _ _ => nz_ok _
theorem nz_list (T : List Tok) (w : Wn) (m : List UInt8) (nxt : Int) (s : PS) (fr : List Int) : Nz (listM T w m nxt s fr) := nz_ite (fun _ => nz_ok _) fun _ => nz_ite (fun _ => nz_lay _ _ _ _ _ _ _) fun _ => nz_ok _
theorem nz_unit' (T : List Tok) (s : PS) (fr : List Int) : Nz (unitM T s fr) :=
 nz_ite (fun _ => nz_bnd (nz_open _ _ _) fun _ _ _ => nz_ok _) fun _ => nz_ite (fun _ => nz_bnd (nz_open _ _ _) fun _ _ _ => nz_ok _) fun _ => nz_ite (fun _ => nz_ite (fun _ => nz_lv (nz_put _ _ _)) fun _ => nz_ite (fun _ => nz_lv (nz_put _ _ _)) fun _ => nz_ite (fun _ => nz_sel' _ _ _ _) fun _ => nz_ite (fun _ => nz_sel' _ _ _ _) fun _ => nz_ite (fun _ => nz_lv (nz_tol _ _)) fun _ => nz_ok _) fun _ => nz_ok _
theorem nz_term' (T : List Tok) (s : PS) (fr : List Int) : Nz (termM T s fr) :=
 nz_ite (fun _ => nz_lv (nz_el _ _)) fun _ => nz_ite (fun _ => nz_lv (nz_set _ _)) fun _ => nz_ite (fun _ => nz_ite (fun _ => nz_lv (nz_who _ _ _)) fun _ => nz_ite (fun _ => nz_lv (nz_who _ _ _)) fun _ => nz_ite (fun _ => nz_lv (nz_who _ _ _)) fun _ => nz_ite (fun _ => nz_bnd (nz_open _ _ _) fun _ _ _ => nz_ok _) fun _ => nz_ite (fun _ => nz_sel' _ _ _ _) fun _ => nz_ref _ _) fun _ => nz_ref _ _
theorem nz_rel (T : List Tok) (b : Nat) (s : PS) (fr : List Int) : Nz (relM T b s fr) := by
 unfold relM
 split
 ·exact nz_ref _ _
 ·exact nz_ok _
theorem nz_step (T : List Tok) (w : Wn) (s : PS) (fr : List Int) : Nz (stepM T w s fr) :=
 nz_ite (fun _ => nz_ok _) fun _ => nz_ite (fun _ => nz_ok _) fun _ => nz_ite (fun _ => nz_list _ _ _ _ _ _) fun _ => nz_ite (fun _ => nz_list _ _ _ _ _ _) fun _ => nz_ite (fun _ => nz_unit' _ _ _) fun _ => nz_ite (fun _ => nz_term' _ _ _) fun _ => nz_ite (fun _ => nz_rel _ _ _ _) fun _ => nz_ite (fun _ => nz_bnd (nz_mark _ _ _) fun _ _ _ => nz_ok _) fun _ => nz_ite (fun _ => nz_lay _ _ _ _ _ _ _) fun _ => nz_ite (fun _ => nz_lay _ _ _ _ _ _ _) fun _ => nz_ite (fun _ => nz_ite (fun _ => nz_ok _) fun _ => nz_ref _ _) fun _ => nz_ok _
end Go.Proofs.YtcldglilhhhdoaaGreatDoor.L
