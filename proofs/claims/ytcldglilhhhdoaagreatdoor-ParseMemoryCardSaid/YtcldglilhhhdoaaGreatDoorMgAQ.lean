import Derived.Test.YtcldglilhhhdoaaGreatDoorPcE
import Derived.Test.YtcldglilhhhdoaaGreatDoorPbN
import Derived.Test.YtcldglilhhhdoaaGreatDoorMgAK
import Derived.Deep.MidRow
import Derived.Deep.QuietTactic
import Derived.BigQuiet
namespace Go.Proofs.YtcldglilhhhdoaaGreatDoor.L
open Go.RowKit Go.Shelf
set_option linter.unusedVariables false
end Go.Proofs.YtcldglilhhhdoaaGreatDoor.L
namespace Go.Proofs.YtcldglilhhhdoaaGreatDoor.L
open Go.RowKit
set_option linter.unusedVariables false
set_option linter.unusedSimpArgs false
section
variable {one : List Tok → PS → PRes Int}
end
end Go.Proofs.YtcldglilhhhdoaaGreatDoor.L
namespace Go.Proofs.YtcldglilhhhdoaaGreatDoor.L
open Go.RowKit Go.Shelf
set_option linter.unusedVariables false
set_option linter.unusedSimpArgs false
theorem tk_out {T : List Tok} {i : Nat} (h : ¬ i < T.length) : (tk T i).kind = 0 := by
 unfold tk
 rw [List.getD_eq_getElem?_getD, List.getElem?_eq_none (by omega)]
 rfl
theorem tk_mem {T : List Tok} {i : Nat} (h : i < T.length) : tk T i ∈ T := by
 unfold tk
 rw [List.getD_eq_getElem?_getD, List.getElem?_eq_getElem h]
 exact List.getElem_mem h
/-- A token of the source that isn't its end. -/
theorem tk_spec {src : ByteArray} (h : (scanT src).2 = none) {i : Nat} (hk : (tk (scanT src).1 i).kind ≠ 0) : i + 1 < (scanT src).1.length ∧ (tk (scanT src).1 i).a < src.size ∧ tokS src (tk (scanT src).1 i).a = .ok (tk (scanT src).1 i) ∧ (tk (scanT src).1 i).a < (tk (scanT src).1 i).e ∧ (tk (scanT src).1 i).e ≤ src.size := by
 have hi : i < (scanT src).1.length := Classical.byContradiction fun hn => hk (tk_out hn)
 have h1 := (scan_fin2 h).2 i hi hk
 obtain ⟨_, l, hl, hs⟩ := scan_shape h
 have hm : tk (scanT src).1 i ∈ l := by
  have h2 := tk_mem hi
  rw [hl] at h2
  rcases List.mem_append.1 h2 with h3 | h3
  ·rw [hl]; exact h3
  ·rw [hl] at hk
   rw [List.mem_singleton] at h3
   rw [h3] at hk
   exact absurd rfl hk
 obtain ⟨h2, h3, h4⟩ := hs _ hm
 have h5 := tok_in h2 h3
 exact ⟨h1, h2, h3, h5.2.1, h5.2.2⟩
end Go.Proofs.YtcldglilhhhdoaaGreatDoor.L
namespace Go.Proofs.YtcldglilhhhdoaaGreatDoor.L
open Go.RowKit
set_option linter.unusedVariables false
set_option linter.unusedSimpArgs false
/-- No fault without a number. -/
def Nz {α : Type} (r : PRes α) : Prop := ∀ c x, r = .error (c, x) → c ≠ 0
theorem nz_ok {α : Type} (q : α × PS) : Nz (.ok q : PRes α) := fun c x h => by cases h
theorem nz_err {α : Type} {c : Nat} {x : Int} (h : c ≠ 0) : Nz (.error (c, x) : PRes α) := fun c' x' e => by
 injection e with e
 injection e with e1 e2
 rw [← e1]; exact h
theorem nz_put (s : PS) (p : Pt) (x : Int) : Nz (putP s p x) := nz_ok _
theorem nz_ref {α : Type} (T : List Tok) (s : PS) : Nz (.error (rfE T s) : PRes α) := by
 refine nz_err (c := (rfE T s).1) (x := (rfE T s).2) ?_
 unfold rfE
 simp only
 split <;> decide
theorem nz_bnd {α β : Type} {p : PRes α} {f : α → PS → PRes β} (hp : Nz p) (hf : ∀ a s1, p = .ok (a, s1) → Nz (f a s1)) : Nz (bnd p f) := by
 cases p with
 | error q =>
  obtain ⟨c, x⟩ := q
  rw [bnd_bad]
  exact nz_err (hp c x rfl)
 | ok q =>
  obtain ⟨a, s1⟩ := q
  rw [bnd_ok]
  exact hf a s1 rfl
theorem nz_ite {α : Type} {c : Prop} [Decidable c] {p q : PRes α} (hp : c → Nz p) (hq : ¬ c → Nz q) : Nz (if c then p else q) := by
 by_cases h : c
 ·rw [if_pos h]; exact hp h
 ·rw [if_neg h]; exact hq h
theorem open_kind {T : List Tok} {s s' : PS} {m : List UInt8} {u : Unit} (h : openP T s m = .ok (u, s')) : (tk T s.nx).kind ≠ 0 := by
 unfold openP at h
 split at h
 ·rename_i h1
  exact isM_kind h1
 ·cases h
theorem nz_mark (T : List Tok) (s : PS) (m : List UInt8) : Nz (markP T s m) := nz_ite (fun _ => nz_ok _) (fun _ => nz_ref T s)
theorem nz_text (T : List Tok) (s : PS) : Nz (textP T s) := nz_ite (fun _ => nz_ok _) (fun _ => nz_ref T s)
theorem nz_open (T : List Tok) (s : PS) (m : List UInt8) : Nz (openP T s m) := nz_ite (fun _ => nz_ite (fun _ => nz_err (by decide)) (fun _ => nz_ok _)) (fun _ => nz_ref T s)
theorem nz_field (T : List Tok) (s : PS) : Nz (fieldP T s) := nz_ite (fun _ => nz_ref T s) (fun _ => nz_ok _)
theorem nz_el (T : List Tok) (s : PS) : Nz (elP T s) := nz_ite (fun _ => nz_put _ _ _) (fun _ => nz_put _ _ _)
theorem nz_mem (T : List Tok) (s : PS) (n : Nat) : Nz (memP T s n) := nz_ite (fun _ => nz_ite (fun _ => nz_err (by decide)) (fun _ => nz_el T s)) (fun _ => nz_ref T s)
theorem nz_mems (T : List Tok) : ∀ (n : Nat) (ks : List Int) (s : PS), Nz (memsP T n ks s)
 | 0, ks, s => nz_ok _
 | n + 1, ks, s => nz_ite (fun _ => nz_bnd (nz_mem _ _ _) fun k s1 _ => nz_mems T n _ s1) (fun _ => nz_ok _)
theorem nz_set (T : List Tok) (s : PS) : Nz (setP T s) :=
 nz_bnd (nz_mark _ _ _) fun _ s1 _ => nz_bnd (nz_ite (fun _ => nz_ok _) (fun _ => nz_bnd (nz_mem _ _ _) fun k s2 _ => nz_ok _)) fun ks s2 _ => nz_bnd (nz_mems _ _ _ _) fun ks s3 _ => nz_bnd (nz_mark _ _ _) fun _ s4 _ => nz_put _ _ _
theorem nz_named (T : List Tok) (s : PS) : Nz (namedP T s) := nz_bnd (nz_mark _ _ _) fun _ s1 _ => nz_bnd (nz_text _ _) fun t s2 _ => nz_bnd (nz_mark _ _ _) fun _ s3 _ => nz_ok _
theorem nz_who (T : List Tok) (s : PS) (side : Int) : Nz (whoP T s side) :=
 nz_ite (fun _ => nz_bnd (nz_text _ _) fun t s1 _ => nz_bnd (nz_mark _ _ _) fun _ s2 _ => nz_put _ _ _) (fun _ => nz_bnd (nz_mark _ _ _) fun _ s1 _ => nz_bnd (nz_field _ _) fun k s2 _ => nz_ite (fun _ => nz_bnd (nz_named _ _) fun t s3 _ => nz_put _ _ _) (fun _ => nz_put _ _ _))
theorem nz_tol (T : List Tok) (s : PS) : Nz (tolP T s) := nz_bnd (nz_named _ _) fun t s1 _ => nz_put _ _ _
section
variable {T : List Tok} {one : PS → PRes Int} {lo : Nat}
theorem nz_rows (h : ∀ s, lo ≤ s.nx → Nz (one s)) (hg : Gone one) (m : List UInt8) : ∀ (n : Nat) (ks : List Int) (s : PS), lo ≤ s.nx → Nz (rowsP T one m n ks s)
 | 0, ks, s, hl => nz_ok _
 | n + 1, ks, s, hl => nz_ite (fun _ => nz_bnd (h _ (Nat.le_trans hl (Nat.le_succ _))) fun k s1 e => nz_rows h hg m n _ s1 (by have := (hg _ _ _ e).nx; simp only [adv] at this; omega)) (fun _ => nz_ok _)
theorem nz_row (h : ∀ s, lo ≤ s.nx → Nz (one s)) (hg : Gone one) (kd : Int) (m : List UInt8) (s : PS) (hl : lo ≤ s.nx) : Nz (rowP T one kd m s) :=
 nz_bnd (h s hl) fun k0 s1 e => nz_bnd (nz_rows h hg m _ _ s1 (by have := (hg _ _ _ e).nx; omega)) fun ks s2 _ => nz_ite (fun _ => nz_ok _) (fun _ => nz_put _ _ _)
theorem nz_with {α : Type} {inner : PS → PRes α} (s : PS) (h : ∀ s1, s.nx + 1 ≤ s1.nx → (tk T s.nx).kind ≠ 0 → Nz (inner s1)) : Nz (withP T inner s) :=
 nz_bnd (nz_open _ _ _) fun _ s1 e => nz_bnd (h s1 (by have := (gn_open e).nx; omega) (open_kind e)) fun k s2 _ => nz_bnd (nz_mark _ _ _) fun _ s3 _ => nz_ok _
theorem nz_sel (s : PS) (h : ∀ s1, s.nx + 1 ≤ s1.nx → Nz (one s1)) (kd : Int) : Nz (selP T one kd s) :=
 nz_bnd (nz_with (adv s) fun s1 h1 _ => nz_bnd (nz_text _ _) fun t s2 e2 => nz_bnd (nz_mark _ _ _) fun _ s3 e3 => nz_bnd (h s3 (by have h4 := (gn_text e2).nx; have h5 := (gn_mark e3).nx; simp only [adv] at h1; omega)) fun k s4 _ => nz_ok _) fun q s5 _ => nz_put _ _ _
theorem nz_neg (s : PS) (h : ∀ s1, s.nx + 1 ≤ s1.nx → (tk T s.nx).kind ≠ 0 → Nz (one s1)) : Nz (negP T one s) :=
 nz_bnd (nz_open _ _ _) fun _ s1 e => nz_bnd (h s1 (by have := (gn_open e).nx; omega) (open_kind e)) fun k s2 _ => nz_put _ _ _
theorem nz_comp (s : PS) (hg : Gone one) (h : ∀ s1, s.nx ≤ s1.nx → Nz (one s1)) : Nz (compP T one s) := by
 refine nz_bnd (h s (Nat.le_refl _)) fun l s1 e => ?_
 cases betO (tk T s1.nx) with
 | none => exact nz_ref T s1
 | some q => exact nz_bnd (h _ (by have := (hg _ _ _ e).nx; simp only [adv]; omega)) fun r s2 _ => nz_put _ _ _
end
theorem nz_gr {T : List Tok} : ∀ (n : Nat) (g : Gr) (s : PS), 4 * (T.length - s.nx) + lvl g < n → Nz (gr T n g s)
 | 0, g, s, h => absurd h (Nat.not_lt_zero _)
 | n + 1, .expr, s, h => nz_row (lo := s.nx) (fun s1 h1 => nz_gr n .conj s1 (by simp only [lvl] at *; omega)) (gn_gr n .conj) 5 _ s (Nat.le_refl _)
 | n + 1, .conj, s, h => nz_row (lo := s.nx) (fun s1 h1 => nz_gr n .unit s1 (by simp only [lvl] at *; omega)) (gn_gr n .unit) 4 _ s (Nat.le_refl _)
 | n + 1, .unit, s, h => by
  have hb : (tk T s.nx).kind ≠ 0 → s.nx < T.length := fun hk => Classical.byContradiction fun hn => hk (tk_out hn)
  have ex : ∀ s1, s.nx + 1 ≤ s1.nx → (tk T s.nx).kind ≠ 0 → Nz (gr T n .expr s1) := fun s1 h1 hk => nz_gr n .expr s1 (by have := hb hk; simp only [lvl] at *; omega)
  have te : ∀ s1, s.nx ≤ s1.nx → Nz (gr T n .term s1) := fun s1 h1 => nz_gr n .term s1 (by simp only [lvl] at *; omega)
  show Nz (unitP T (gr T n .expr) (gr T n .unit) (gr T n .term) s)
  refine nz_ite (fun _ => nz_neg s fun s1 h1 hk => nz_gr n .unit s1 (by have := hb hk; simp only [lvl] at *; omega)) (fun _ => nz_ite (fun _ => nz_with s ex) (fun _ => ?_))
  refine nz_ite (fun h3 => ?_) (fun _ => nz_comp s (gn_gr n .term) te)
  have hk : (tk T s.nx).kind ≠ 0 := by rw [h3]; decide
  exact nz_ite (fun _ => nz_put _ _ _) (fun _ => nz_ite (fun _ => nz_put _ _ _) (fun _ => nz_ite (fun _ => nz_sel s (fun s1 h1 => ex s1 h1 hk) 8) (fun _ => nz_ite (fun _ => nz_sel s (fun s1 h1 => ex s1 h1 hk) 9) (fun _ => nz_ite (fun _ => nz_tol _ _) (fun _ => nz_comp s (gn_gr n .term) te)))))
 | n + 1, .term, s, h => by
  have hb : (tk T s.nx).kind ≠ 0 → s.nx < T.length := fun hk => Classical.byContradiction fun hn => hk (tk_out hn)
  show Nz (termP T (gr T n .expr) (gr T n .term) s)
  refine nz_ite (fun _ => nz_el _ _) (fun _ => nz_ite (fun _ => nz_set _ _) (fun _ => nz_ite (fun h3 => ?_) (fun _ => nz_ref _ _)))
  have hk : (tk T s.nx).kind ≠ 0 := by rw [h3]; decide
  have hl := hb hk
  have ex : ∀ s1, s.nx + 1 ≤ s1.nx → Nz (gr T n .expr s1) := fun s1 h1 => nz_gr n .expr s1 (by simp only [lvl] at *; omega)
  have te : ∀ s1, s.nx + 1 ≤ s1.nx → Nz (gr T n .term s1) := fun s1 h1 => nz_gr n .term s1 (by simp only [lvl] at *; omega)
  exact nz_ite (fun _ => nz_who _ _ _) (fun _ => nz_ite (fun _ => nz_who _ _ _) (fun _ => nz_ite (fun _ => nz_who _ _ _) (fun _ => nz_ite (fun _ => nz_bnd (nz_with (adv s) fun s1 h1 _ => te s1 (by simp only [adv] at h1; omega)) fun k s1 _ => nz_put _ _ _) (fun _ => nz_ite (fun _ => nz_sel s ex 20) (fun _ => nz_ref _ _)))))
end Go.Proofs.YtcldglilhhhdoaaGreatDoor.L
namespace Go.Proofs.YtcldglilhhhdoaaGreatDoor.L
open Go.RowKit
set_option linter.unusedVariables false
set_option linter.unusedSimpArgs false
/-- One thing that the document's machine awaits. -/
structure Wn where
 w : Int
 kd : Int
 pos : Int
 text : ByteArray
 num : Int
 base : Nat
def awt (k : Int) : Wn := ⟨k, 0, 0, ⟨#[]⟩, 0, 0⟩
/-- A step gives: what is awaited now ahead of the rest, the free parts, the state. -/
abbrev MR : Type := PRes (List Wn × List Int)
def lv (fr : List Int) (r : PRes Int) : MR := bnd r fun k s => .ok (([], fr ++ [k]), s)
def layM (s : PS) (fr : List Int) (kd : Int) (tx : ByteArray) (nu pos : Int) (base : Nat) : MR :=
 bnd (putP s ⟨kd, tx, nu, fr.drop base⟩ pos) fun k s1 => .ok (([], fr.take base ++ [k]), s1)
def selM (T : List Tok) (kd : Int) (s : PS) (fr : List Int) : MR :=
 bnd (openP T (adv s) [40]) fun _ s1 => bnd (textP T s1) fun t s2 => bnd (markP T s2 [44]) fun _ s3 =>
  .ok (([awt 1, awt 8, ⟨10, kd, ((tk T s.nx).a : Int), t, 0, fr.length⟩], fr), s3)
def listM (T : List Tok) (w : Wn) (m : List UInt8) (nxt : Int) (s : PS) (fr : List Int) : MR :=
 if isM T s m = true then .ok (([awt nxt, ⟨w.w, w.kd, if w.pos < 0 then ((tk T s.nx).a : Int) else w.pos, w.text, w.num, w.base⟩], fr), adv s)
 else if 0 ≤ w.pos then layM s fr w.kd ⟨#[]⟩ 0 w.pos w.base else .ok (([], fr), s)
def cmpM (s : PS) (fr : List Int) : MR := .ok (([awt 6, ⟨7, 0, 0, ⟨#[]⟩, 0, fr.length⟩], fr), s)
def unitM (T : List Tok) (s : PS) (fr : List Int) : MR :=
 if isM T s [33] = true then bnd (openP T s [33]) fun _ s1 => .ok (([awt 5, ⟨9, 0, ((tk T s.nx).a : Int), ⟨#[]⟩, 0, fr.length⟩], fr), s1)
 else if isM T s [40] = true then bnd (openP T s [40]) fun _ s1 => .ok (([awt 1, awt 8], fr), s1)
 else if (tk T s.nx).kind = 3 then
  if (tk T s.nx).text.toList = [116, 114, 117, 101] then lv fr (constP T s 1)
  else if (tk T s.nx).text.toList = [102, 97, 108, 115, 101] then lv fr (constP T s 2)
  else if (tk T s.nx).text.toList = [110, 101, 97, 114] then selM T 8 s fr
  else if (tk T s.nx).text.toList = [97, 112, 97, 114, 116] then selM T 9 s fr
  else if (tk T s.nx).text.toList = [116, 111, 108, 101, 114, 97, 116, 101, 100] then lv fr (tolP T s)
  else cmpM s fr
 else cmpM s fr
def termM (T : List Tok) (s : PS) (fr : List Int) : MR :=
 if isEl (tk T s.nx) = true then lv fr (elP T s)
 else if isM T s [123] = true then lv fr (setP T s)
 else if (tk T s.nx).kind = 3 then
  if (tk T s.nx).text.toList = [110, 111, 100, 101] then lv fr (whoP T s 2)
  else if (tk T s.nx).text.toList = [112, 111, 100] then lv fr (whoP T s 1)
  else if (tk T s.nx).text.toList = [105, 116] then lv fr (whoP T s 3)
  else if (tk T s.nx).text.toList = [105, 110, 116] then bnd (openP T (adv s) [40]) fun _ s1 => .ok (([awt 6, awt 8, ⟨10, 19, ((tk T s.nx).a : Int), ⟨#[]⟩, 0, fr.length⟩], fr), s1)
  else if (tk T s.nx).text.toList = [99, 111, 117, 110, 116] then selM T 20 s fr
  else .error (rfE T s)
 else .error (rfE T s)
def relM (T : List Tok) (base : Nat) (s : PS) (fr : List Int) : MR :=
 match betO (tk T s.nx) with
 | none => .error (rfE T s)
 | some (kd, nu) => .ok (([awt 6, ⟨11, kd, ((tk T s.nx).a : Int), ⟨#[]⟩, nu, base⟩], fr), adv s)
/-- The document's machine: one step. -/
def stepM (T : List Tok) (w : Wn) (s : PS) (fr : List Int) : MR :=
 if w.w = 1 then .ok (([awt 3, ⟨2, 5, -1, ⟨#[]⟩, 0, fr.length⟩], fr), s)
 else if w.w = 3 then .ok (([awt 5, ⟨4, 4, -1, ⟨#[]⟩, 0, fr.length⟩], fr), s)
 else if w.w = 2 then listM T w [124, 124] 3 s fr
 else if w.w = 4 then listM T w [38, 38] 5 s fr
 else if w.w = 5 then unitM T s fr
 else if w.w = 6 then termM T s fr
 else if w.w = 7 then relM T w.base s fr
 else if w.w = 8 then bnd (markP T s [41]) fun _ s1 => .ok (([], fr), shutP s1)
 else if w.w = 9 then layM (shutP s) fr 3 ⟨#[]⟩ 0 w.pos w.base
 else if w.w = 10 ∨ w.w = 11 then layM s fr w.kd w.text w.num w.pos w.base
 else if w.w = 12 then (if (tk T s.nx).kind = 0 then .ok (([], fr), s) else .error (rfE T s))
 else .ok (([], fr), s)
/-- The machine comes to an end, in so many steps. -/
inductive Rn (T : List Tok) : Nat → List Wn → PS → List Int → PRes (List Int) → Prop where
 | fin (s : PS) (fr : List Int) : Rn T 0 [] s fr (.ok (fr, s))
 | bad {w : Wn} {ws : List Wn} {s : PS} {fr : List Int} {e : Nat × Int} (hl : ws.length < 200) (h : stepM T w s fr = .error e) : Rn T 0 (w :: ws) s fr (.error e)
 | go {n : Nat} {w : Wn} {ws : List Wn} {s : PS} {fr : List Int} {ps : List Wn} {fr' : List Int} {s' : PS} {r : PRes (List Int)} (hl : ws.length < 200) (h : stepM T w s fr = .ok ((ps, fr'), s')) (hn : Rn T n (ps ++ ws) s' fr' r) : Rn T (n + 1) (w :: ws) s fr r
def Rs (T : List Tok) (ws : List Wn) (s : PS) (fr : List Int) (r : PRes (List Int)) : Prop := ∃ n, Rn T n ws s fr r
/-- What holds behind a piece that was read; or its fault is the whole's. -/
def Af {α : Type} (r : PRes (List Int)) (k : α → PS → Prop) : PRes α → Prop
 | .ok (a, s) => k a s
 | .error (c, x) => c ≠ 0 ∧ r = .error (c, x)
theorem af_bnd {α β : Type} {r : PRes (List Int)} {k : β → PS → Prop} (p : PRes α) (f : α → PS → PRes β) : Af r k (bnd p f) = Af r (fun a s => Af r k (f a s)) p := by
 cases p with
 | ok q => obtain ⟨a, s⟩ := q; rfl
 | error q => obtain ⟨c, x⟩ := q; rfl
theorem Af.mono {α : Type} {r : PRes (List Int)} {k k' : α → PS → Prop} {p : PRes α} (h : Af r k p) (hk : ∀ a s, p = .ok (a, s) → k a s → k' a s) : Af r k' p := by
 cases p with
 | ok q => obtain ⟨a, s⟩ := q; exact hk a s rfl h
 | error q => obtain ⟨c, x⟩ := q; exact h
theorem rs_step {T : List Tok} {w : Wn} {ws : List Wn} {s : PS} {fr : List Int} {r : PRes (List Int)} (hl : ws.length < 200) (h : Af r (fun q s' => Rs T (q.1 ++ ws) s' q.2 r) (stepM T w s fr)) : Rs T (w :: ws) s fr r := by
 cases hq : stepM T w s fr with
 | ok q =>
  obtain ⟨⟨ps, fr'⟩, s'⟩ := q
  rw [hq] at h
  obtain ⟨n, hn⟩ := h
  exact ⟨n + 1, .go hl hq hn⟩
 | error q =>
  obtain ⟨c, x⟩ := q
  rw [hq] at h
  obtain ⟨_, rfl⟩ := h
  exact ⟨0, .bad hl hq⟩
/-- The machine does what the reader does. -/
def Smm (T : List Tok) (w : Wn) (d : Nat) (p : PS → PRes Int) : Prop := ∀ (s : PS) (fr : List Int) (ws : List Wn) (r : PRes (List Int)), s.ns ≤ 32 → ws.length + 5 * (32 - s.ns) + d < 200 → Af r (fun k s' => Rs T ws s' (fr ++ [k]) r) (p s) → Rs T (w :: ws) s fr r
theorem af_lv {T : List Tok} {ws : List Wn} {fr : List Int} {r : PRes (List Int)} {p : PRes Int} (h : Af r (fun k s' => Rs T ws s' (fr ++ [k]) r) p) : Af r (fun q s' => Rs T (q.1 ++ ws) s' q.2 r) (lv fr p) := by
 unfold lv
 rw [af_bnd]
 exact h
theorem lay_eq (s : PS) (fr ks : List Int) (kd : Int) (tx : ByteArray) (nu pos : Int) : layM s (fr ++ ks) kd tx nu pos fr.length = bnd (putP s ⟨kd, tx, nu, ks⟩ pos) fun k s1 => .ok (([], fr ++ [k]), s1) := by
 unfold layM
 rw [List.drop_left, List.take_left]
theorem af_lay {T : List Tok} {ws : List Wn} {fr ks : List Int} {r : PRes (List Int)} {s : PS} {kd nu pos : Int} {tx : ByteArray} (h : Af r (fun k s' => Rs T ws s' (fr ++ [k]) r) (putP s ⟨kd, tx, nu, ks⟩ pos)) : Af r (fun q s' => Rs T (q.1 ++ ws) s' q.2 r) (layM s (fr ++ ks) kd tx nu pos fr.length) := by
 rw [lay_eq, af_bnd]
 exact h
theorem isM_end {T : List Tok} {s : PS} (m : List UInt8) (h : T.length ≤ s.nx) : isM T s m = false := by
 have e : tk T s.nx = tok0 := by
  unfold tk
  rw [List.getD_eq_getElem?_getD, List.getElem?_eq_none h]
  rfl
 unfold isM
 rw [e]
 rfl
end Go.Proofs.YtcldglilhhhdoaaGreatDoor.L
namespace Go.Proofs.YtcldglilhhhdoaaGreatDoor.L
open Go.RowKit
set_option linter.unusedVariables false
set_option linter.unusedSimpArgs false
/-- A want of a row: of conjs, or of units. -/
def Lsw (T : List Tok) (W kd nxt : Int) (m : List UInt8) : Prop := ∀ (pos : Int) (b : Nat) (s : PS) (fr : List Int), stepM T ⟨W, kd, pos, ⟨#[]⟩, 0, b⟩ s fr = listM T ⟨W, kd, pos, ⟨#[]⟩, 0, b⟩ m nxt s fr
theorem lst_ors (T : List Tok) : Lsw T 2 5 3 [124, 124] := fun _ _ _ _ => rfl
theorem lst_ands (T : List Tok) : Lsw T 4 4 5 [38, 38] := fun _ _ _ _ => rfl
theorem rows_go {T : List Tok} {W kd nxt : Int} {m : List UInt8} {d : Nat} (hst : Lsw T W kd nxt m) {one : PS → PRes Int} (h1 : Smm T (awt nxt) d one) (hg : Gone one) (A : Nat) (fr : List Int) (ws : List Wn) (r : PRes (List Int)) :
  ∀ (n : Nat) (ks : List Int) (s : PS), s.ns ≤ 32 → ws.length + 5 * (32 - s.ns) + d + 1 < 200 → T.length ≤ n + s.nx → Af r (fun ks' s2 => Af r (fun k s' => Rs T ws s' (fr ++ [k]) r) (putP s2 ⟨kd, ⟨#[]⟩, 0, ks'⟩ (A : Int))) (rowsP T one m n ks s) → Rs T (⟨W, kd, (A : Int), ⟨#[]⟩, 0, fr.length⟩ :: ws) s (fr ++ ks) r := by
 have fin : ∀ (ks : List Int) (s : PS), ws.length < 200 → isM T s m = false → Af r (fun k s' => Rs T ws s' (fr ++ [k]) r) (putP s ⟨kd, ⟨#[]⟩, 0, ks⟩ (A : Int)) → Rs T (⟨W, kd, (A : Int), ⟨#[]⟩, 0, fr.length⟩ :: ws) s (fr ++ ks) r := by
  intro ks s hl hm h
  refine rs_step hl ?_
  rw [hst]
  unfold listM
  rw [if_neg (by rw [hm]; simp), if_pos (by show (0 : Int) ≤ (A : Int); omega)]
  exact af_lay h
 intro n
 induction n with
 | zero =>
  intro ks s hn hl hT h
  exact fin ks s (by omega) (isM_end m (by omega)) h
 | succ n ih =>
  intro ks s hn hl hT h
  unfold rowsP at h
  by_cases hm : isM T s m = true
  ·rw [if_pos hm, af_bnd] at h
   refine rs_step (by omega) ?_
   rw [hst]
   unfold listM
   rw [if_pos hm]
   show Rs T (awt nxt :: ⟨W, kd, if (A : Int) < 0 then ((tk T s.nx).a : Int) else (A : Int), ⟨#[]⟩, 0, fr.length⟩ :: ws) (adv s) (fr ++ ks) r
   rw [if_neg (by omega)]
   refine h1 (adv s) (fr ++ ks) _ r hn (by rw [List.length_cons]; show ws.length + 1 + 5 * (32 - s.ns) + d < 200; omega) (h.mono fun k s1 e hk => ?_)
   have hgn := (hg _ _ _ e).nx
   have hgs : s1.ns = s.ns := (hg _ _ _ e).ns
   rw [List.append_assoc]
   exact ih (ks ++ [k]) s1 (by omega) (by omega) (by simp only [adv] at hgn; omega) hk
  ·rw [if_neg hm] at h
   exact fin ks s (by omega) (by simpa using hm) h
theorem row_go {T : List Tok} {W kd nxt w0 : Int} {m : List UInt8} {d : Nat} (hT : T.length ≤ 4097) (hst : Lsw T W kd nxt m) (h0 : ∀ (s : PS) (fr : List Int), stepM T (awt w0) s fr = .ok (([awt nxt, ⟨W, kd, -1, ⟨#[]⟩, 0, fr.length⟩], fr), s)) {one : PS → PRes Int} (h1 : Smm T (awt nxt) d one) (hg : Gone one) : Smm T (awt w0) (d + 1) (rowP T one kd m) := by
 intro s fr ws r hn hl h
 unfold rowP at h
 rw [af_bnd] at h
 refine rs_step (by omega) ?_
 rw [h0]
 show Rs T (awt nxt :: ⟨W, kd, -1, ⟨#[]⟩, 0, fr.length⟩ :: ws) s fr r
 refine h1 s fr _ r hn (by rw [List.length_cons]; omega) (h.mono fun k0 s1 e hk => ?_)
 have hgs : s1.ns = s.ns := (hg _ _ _ e).ns
 rw [af_bnd] at hk
 refine rs_step (by omega) ?_
 rw [hst]
 unfold listM
 rw [show (4097 : Nat) = 4096 + 1 from rfl] at hk
 by_cases hm : isM T s1 m = true
 ·rw [if_pos hm]
  show Rs T (awt nxt :: ⟨W, kd, if (-1 : Int) < 0 then ((tk T s1.nx).a : Int) else -1, ⟨#[]⟩, 0, fr.length⟩ :: ws) (adv s1) (fr ++ [k0]) r
  rw [if_pos (by decide)]
  unfold rowsP at hk
  rw [if_pos hm, af_bnd] at hk
  refine h1 (adv s1) (fr ++ [k0]) _ r (by show s1.ns ≤ 32; omega) (by rw [List.length_cons]; show ws.length + 1 + 5 * (32 - s1.ns) + d < 200; omega) (hk.mono fun k s2 e2 hk2 => ?_)
  have hgn := (hg _ _ _ e2).nx
  have hg2 : s2.ns = s1.ns := (hg _ _ _ e2).ns
  rw [List.append_assoc]
  refine rows_go hst h1 hg _ fr ws r 4096 ([k0] ++ [k]) s2 (by omega) (by omega) (by simp only [adv] at hgn; omega) (hk2.mono fun ks' s3 e3 hk3 => ?_)
  have := (gn_rows hg _ e3).1
  rw [if_neg (by simp at this; omega)] at hk3
  exact hk3
 ·rw [if_neg hm, if_neg (by show ¬ (0 : Int) ≤ -1; decide)]
  unfold rowsP at hk
  rw [if_neg hm] at hk
  exact hk
theorem with_go {T : List Tok} {α : Type} {inner : PS → PRes α} {s : PS} {r : PRes (List Int)} {K : α → PS → Prop} (h : Af r K (withP T inner s)) : Af r (fun _ s1 => Af r (fun k s2 => Af r (fun _ s3 => K k (shutP s3)) (markP T s2 [41])) (inner s1)) (openP T s [40]) := by
 unfold withP at h
 rw [af_bnd] at h
 refine h.mono fun _ s1 _ h1 => ?_
 rw [af_bnd] at h1
 refine h1.mono fun k s2 _ h2 => ?_
 rw [af_bnd] at h2
 exact h2
theorem open_ns {T : List Tok} {s s' : PS} {m : List UInt8} {u : Unit} (h : openP T s m = .ok (u, s')) (hs : s.ns ≤ 32) : s'.ns = s.ns + 1 ∧ s'.ns ≤ 32 := by
 have h1 := (gn_open h).ns
 refine ⟨h1, ?_⟩
 by_cases h2 : s.ns = 32
 ·unfold openP at h
  split at h
  ·first | cases h | (rw [if_pos h2] at h; cases h)
  ·cases h
 ·omega
theorem close_go {T : List Tok} {ws : List Wn} {s : PS} {fr : List Int} {r : PRes (List Int)} (hl : ws.length < 200) (h : Af r (fun _ s3 => Rs T ws (shutP s3) fr r) (markP T s [41])) : Rs T (awt 8 :: ws) s fr r := by
 refine rs_step hl ?_
 show Af r _ (bnd (markP T s [41]) fun _ s1 => .ok (([], fr), shutP s1))
 rw [af_bnd]
 exact h
theorem part_go {T : List Tok} {ws : List Wn} {s : PS} {fr ks : List Int} {r : PRes (List Int)} {kd nu pos : Int} {tx : ByteArray} {W : Int} (hl : ws.length < 200) (hW : W = 10 ∨ W = 11) (h : Af r (fun k s' => Rs T ws s' (fr ++ [k]) r) (putP s ⟨kd, tx, nu, ks⟩ pos)) : Rs T (⟨W, kd, pos, tx, nu, fr.length⟩ :: ws) s (fr ++ ks) r := by
 refine rs_step hl ?_
 have e : stepM T ⟨W, kd, pos, tx, nu, fr.length⟩ s (fr ++ ks) = layM s (fr ++ ks) kd tx nu pos fr.length := by
  rcases hW with rfl | rfl <;> rfl
 rw [e]
 exact af_lay h
theorem sel_go {T : List Tok} {ex : PS → PRes Int} (h1 : Smm T (awt 1) 4 ex) {kd : Int} {s : PS} {fr : List Int} {ws : List Wn} {r : PRes (List Int)} (hn : s.ns ≤ 32) (hl : ws.length + 5 * (32 - s.ns) + 1 < 200) (h : Af r (fun k s' => Rs T ws s' (fr ++ [k]) r) (selP T ex kd s)) : Af r (fun q s' => Rs T (q.1 ++ ws) s' q.2 r) (selM T kd s fr) := by
 unfold selP at h
 rw [af_bnd] at h
 have h := with_go h
 unfold selM
 rw [af_bnd]
 refine h.mono fun _ s1 e1 h2 => ?_
 have ho := open_ns e1 hn
 have ho1 : (adv s).ns = s.ns := rfl
 rw [af_bnd] at h2 ⊢
 refine h2.mono fun t s2 e2 h3 => ?_
 have n2 := (gn_text e2).ns
 rw [af_bnd] at h3 ⊢
 refine h3.mono fun _ s3 e3 h4 => ?_
 have n3 := (gn_mark e3).ns
 rw [af_bnd] at h4
 show Rs T (awt 1 :: awt 8 :: ⟨10, kd, ((tk T s.nx).a : Int), t, 0, fr.length⟩ :: ws) s3 fr r
 refine h1 s3 fr _ r (by omega) (by rw [List.length_cons, List.length_cons]; omega) (h4.mono fun k s4 _ h5 => ?_)
 refine close_go (by rw [List.length_cons]; omega) (Af.mono (show Af r _ (markP T s4 [41]) from h5) fun _ s5 _ h6 => ?_)
 exact part_go (by omega) (Or.inl rfl) h6
theorem comp_go {T : List Tok} {te : PS → PRes Int} (h1 : Smm T (awt 6) 1 te) (hg : Gone te) {s : PS} {fr : List Int} {ws : List Wn} {r : PRes (List Int)} (hn : s.ns ≤ 32) (hl : ws.length + 5 * (32 - s.ns) + 2 < 200) (h : Af r (fun k s' => Rs T ws s' (fr ++ [k]) r) (compP T te s)) : Af r (fun q s' => Rs T (q.1 ++ ws) s' q.2 r) (cmpM s fr) := by
 unfold compP at h
 rw [af_bnd] at h
 show Rs T (awt 6 :: ⟨7, 0, 0, ⟨#[]⟩, 0, fr.length⟩ :: ws) s fr r
 refine h1 s fr _ r hn (by rw [List.length_cons]; omega) (h.mono fun l s1 e1 h2 => ?_)
 have n1 := (hg _ _ _ e1).ns
 refine rs_step (by omega) ?_
 show Af r _ (relM T fr.length s1 (fr ++ [l]))
 unfold relM
 cases hb : betO (tk T s1.nx) with
 | none =>
  rw [hb] at h2
  exact h2
 | some q =>
  obtain ⟨kd, nu⟩ := q
  rw [hb] at h2
  dsimp only at h2 ⊢
  rw [af_bnd] at h2
  show Rs T (awt 6 :: ⟨11, kd, ((tk T s1.nx).a : Int), ⟨#[]⟩, nu, fr.length⟩ :: ws) (adv s1) (fr ++ [l]) r
  refine h1 (adv s1) (fr ++ [l]) _ r (by show s1.ns ≤ 32; omega) (by rw [List.length_cons]; show ws.length + 1 + 5 * (32 - s1.ns) + 1 < 200; omega) (h2.mono fun r2 s2 _ h3 => ?_)
  rw [List.append_assoc]
  exact part_go (by omega) (Or.inr rfl) h3
theorem unit_go {T : List Tok} {ex un te : PS → PRes Int} (h1 : Smm T (awt 1) 4 ex) (h5 : Smm T (awt 5) 2 un) (h6 : Smm T (awt 6) 1 te) (hg : Gone te) : Smm T (awt 5) 2 (unitP T ex un te) := by
 intro s fr ws r hn hl h
 refine rs_step (by omega) ?_
 show Af r _ (unitM T s fr)
 unfold unitP at h
 unfold unitM
 by_cases ha : isM T s [33] = true
 ·rw [if_pos ha] at h ⊢
  unfold negP at h
  rw [af_bnd] at h ⊢
  refine h.mono fun _ s1 eo h2 => ?_
  have ho := open_ns eo hn
  rw [af_bnd] at h2
  show Rs T (awt 5 :: ⟨9, 0, ((tk T s.nx).a : Int), ⟨#[]⟩, 0, fr.length⟩ :: ws) s1 fr r
  refine h5 s1 fr _ r (by omega) (by rw [List.length_cons]; omega) (h2.mono fun k s2 _ h3 => ?_)
  refine rs_step (by omega) ?_
  show Af r _ (layM (shutP s2) (fr ++ [k]) 3 ⟨#[]⟩ 0 ((tk T s.nx).a : Int) fr.length)
  exact af_lay h3
 ·rw [if_neg ha] at h ⊢
  by_cases hb : isM T s [40] = true
  ·rw [if_pos hb] at h ⊢
   have h := with_go h
   rw [af_bnd]
   refine h.mono fun _ s1 eo h2 => ?_
   have ho := open_ns eo hn
   show Rs T (awt 1 :: awt 8 :: ws) s1 fr r
   exact h1 s1 fr _ r (by omega) (by rw [List.length_cons]; omega) (h2.mono fun k s2 _ h3 => close_go (by omega) h3)
  ·rw [if_neg hb] at h ⊢
   unfold atomP at h
   by_cases hk : (tk T s.nx).kind = 3
   ·rw [if_pos hk] at h ⊢
    by_cases c1 : (tk T s.nx).text.toList = [116, 114, 117, 101]
    ·rw [if_pos c1] at h ⊢; exact af_lv h
    rw [if_neg c1] at h ⊢
    by_cases c2 : (tk T s.nx).text.toList = [102, 97, 108, 115, 101]
    ·rw [if_pos c2] at h ⊢; exact af_lv h
    rw [if_neg c2] at h ⊢
    by_cases c3 : (tk T s.nx).text.toList = [110, 101, 97, 114]
    ·rw [if_pos c3] at h ⊢; exact sel_go h1 hn (by omega) h
    rw [if_neg c3] at h ⊢
    by_cases c4 : (tk T s.nx).text.toList = [97, 112, 97, 114, 116]
    ·rw [if_pos c4] at h ⊢; exact sel_go h1 hn (by omega) h
    rw [if_neg c4] at h ⊢
    by_cases c5 : (tk T s.nx).text.toList = [116, 111, 108, 101, 114, 97, 116, 101, 100]
    ·rw [if_pos c5] at h ⊢; exact af_lv h
    rw [if_neg c5] at h ⊢
    exact comp_go h6 hg hn (by omega) h
   ·rw [if_neg hk] at h ⊢
    exact comp_go h6 hg hn (by omega) h
theorem term_go {T : List Tok} {ex te : PS → PRes Int} (h1 : Smm T (awt 1) 4 ex) (h6 : Smm T (awt 6) 1 te) : Smm T (awt 6) 1 (termP T ex te) := by
 intro s fr ws r hn hl h
 refine rs_step (by omega) ?_
 show Af r _ (termM T s fr)
 unfold termP at h
 unfold termM
 by_cases ha : isEl (tk T s.nx) = true
 ·rw [if_pos ha] at h ⊢; exact af_lv h
 rw [if_neg ha] at h ⊢
 by_cases hb : isM T s [123] = true
 ·rw [if_pos hb] at h ⊢; exact af_lv h
 rw [if_neg hb] at h ⊢
 by_cases hk : (tk T s.nx).kind = 3
 ·rw [if_pos hk] at h ⊢
  unfold wordP at h
  by_cases c1 : (tk T s.nx).text.toList = [110, 111, 100, 101]
  ·rw [if_pos c1] at h ⊢; exact af_lv h
  rw [if_neg c1] at h ⊢
  by_cases c2 : (tk T s.nx).text.toList = [112, 111, 100]
  ·rw [if_pos c2] at h ⊢; exact af_lv h
  rw [if_neg c2] at h ⊢
  by_cases c3 : (tk T s.nx).text.toList = [105, 116]
  ·rw [if_pos c3] at h ⊢; exact af_lv h
  rw [if_neg c3] at h ⊢
  by_cases c4 : (tk T s.nx).text.toList = [105, 110, 116]
  ·rw [if_pos c4] at h ⊢
   rw [af_bnd] at h ⊢
   have h := with_go h
   refine h.mono fun _ s1 eo h2 => ?_
   have ho := open_ns eo hn
   have ho1 : (adv s).ns = s.ns := rfl
   show Rs T (awt 6 :: awt 8 :: ⟨10, 19, ((tk T s.nx).a : Int), ⟨#[]⟩, 0, fr.length⟩ :: ws) s1 fr r
   refine h6 s1 fr _ r (by omega) (by rw [List.length_cons, List.length_cons]; omega) (h2.mono fun k s2 _ h3 => ?_)
   exact close_go (by rw [List.length_cons]; omega) (h3.mono fun _ s3 _ h4 => part_go (by omega) (Or.inl rfl) h4)
  rw [if_neg c4] at h ⊢
  by_cases c5 : (tk T s.nx).text.toList = [99, 111, 117, 110, 116]
  ·rw [if_pos c5] at h ⊢; exact sel_go h1 hn (by omega) h
  rw [if_neg c5] at h ⊢
  exact h
 ·rw [if_neg hk] at h ⊢
  exact h
/-- The want of a production. -/
def wg : Gr → Int
 | .expr => 1
 | .conj => 3
 | .unit => 5
 | .term => 6
def wd : Gr → Nat
 | .expr => 4
 | .conj => 3
 | .unit => 2
 | .term => 1
theorem gr_go {T : List Tok} (hT : T.length ≤ 4097) : ∀ (n : Nat) (g : Gr), Smm T (awt (wg g)) (wd g) (gr T n g)
 | 0, g => fun s fr ws r _ _ h => absurd rfl h.1
 | n + 1, .expr => row_go hT (lst_ors T) (fun _ _ => rfl) (gr_go hT n .conj) (gn_gr n .conj)
 | n + 1, .conj => row_go hT (lst_ands T) (fun _ _ => rfl) (gr_go hT n .unit) (gn_gr n .unit)
 | n + 1, .unit => unit_go (gr_go hT n .expr) (gr_go hT n .unit) (gr_go hT n .term) (gn_gr n .term)
 | n + 1, .term => term_go (gr_go hT n .expr) (gr_go hT n .term)
/-- What the machine comes to, ahead of the count of the parts. -/
def endM (T : List Tok) : PRes (List Int) :=
 bnd (gr T 16392 .expr ⟨0, 0, [], []⟩) fun k s => if (tk T s.nx).kind = 0 then .ok ([k], s) else .error (rfE T s)
/-- THE MACHINE READS WHAT THE GRAMMAR READS. -/
theorem machine_go {T : List Tok} (hT : T.length ≤ 4097) (h0 : 0 < T.length) : Rs T [awt 1, awt 12] ⟨0, 0, [], []⟩ [] (endM T) := by
 refine gr_go hT 16392 .expr _ [] [awt 12] _ (by decide) (by decide) ?_
 unfold endM
 cases hq : gr T 16392 .expr ⟨0, 0, [], []⟩ with
 | error q =>
  obtain ⟨c, x⟩ := q
  exact ⟨nz_gr 16392 .expr _ (by simp only [lvl]; omega) c x hq, rfl⟩
 | ok q =>
  obtain ⟨k, s⟩ := q
  show Rs T [awt 12] s [k] (if (tk T s.nx).kind = 0 then .ok ([k], s) else .error (rfE T s))
  refine rs_step (by decide) ?_
  show Af _ _ (if (tk T s.nx).kind = 0 then .ok (([], [k]), s) else .error (rfE T s))
  by_cases hk : (tk T s.nx).kind = 0
  ·rw [if_pos hk, if_pos hk]
   exact ⟨0, .fin s [k]⟩
  ·rw [if_neg hk, if_neg hk]
   refine ⟨?_, rfl⟩
   rw [if_neg hk]
   decide
end Go.Proofs.YtcldglilhhhdoaaGreatDoor.L
namespace Go.Proofs.YtcldglilhhhdoaaGreatDoor.L
open Go.RowKit
set_option linter.unusedVariables false
set_option linter.unusedSimpArgs false
/-- A fault as plain data. -/
def f19 (c a : Int) : Array Value := #[.int .i64 c, .int .i64 a, .string ⟨#[]⟩, .int .i64 0, .int .i64 0, .int .i64 0, .string ⟨#[]⟩, .int .i64 0, .int .i64 0, .int .i64 0, .string ⟨#[]⟩, .int .i64 0, .int .i64 0, .int .i64 0, .string ⟨#[]⟩, .int .i64 0, .int .i64 0, .int .i64 0, .string ⟨#[]⟩]
/-- What reading Parse's error gives. -/
def rdc (src : ByteArray) : Int × Int :=
 match parR src with
 | .ok _ => (0, 0)
 | .error (c, x) => ((c : Int), x)
end Go.Proofs.YtcldglilhhhdoaaGreatDoor.L
