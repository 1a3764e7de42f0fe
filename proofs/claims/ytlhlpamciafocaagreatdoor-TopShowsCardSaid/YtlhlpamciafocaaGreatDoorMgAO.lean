import Derived.Test.YtlhlpamciafocaaGreatDoorPbN
import Derived.Laws.Tables
import Derived.Deep.WholeRow
import Derived.Laws.Rows
import Derived.Laws.StructEq
namespace Go.Proofs.YtlhlpamciafocaaGreatDoor.L
open Go.RowKit Go.Shelf
set_option linter.unusedVariables false
set_option linter.unusedSimpArgs false
theorem info53 : (Tryz.prog.info? 45).map (·.size) = some 19 := by kernel_rfl
end Go.Proofs.YtlhlpamciafocaaGreatDoor.L
namespace Go.Proofs.YtlhlpamciafocaaGreatDoor.L
open Go.RowKit Go.Shelf
set_option linter.unusedVariables false
set_option linter.unusedSimpArgs false
end Go.Proofs.YtlhlpamciafocaaGreatDoor.L
namespace Go.Proofs.YtlhlpamciafocaaGreatDoor.L
open Go.RowKit Go.Shelf
set_option linter.unusedVariables false
set_option linter.unusedSimpArgs false
end Go.Proofs.YtlhlpamciafocaaGreatDoor.L
namespace Go.Proofs.YtlhlpamciafocaaGreatDoor.L
open Go.RowKit
set_option linter.unusedVariables false
set_option linter.unusedSimpArgs false
theorem own_rdi {W : World} {B : Nat} {v : Value} {l : List Int} (h : OwnI W B v l) : ∃ a c, v = .slice a l.length c ∧ RdI W a l := by
  rcases h.2 with ⟨e, n0⟩ | ⟨g, cap, cur, e, hb, hg, h3⟩
  · exact ⟨none, 0, by rw [e, n0], Or.inl n0⟩
  · refine ⟨_, cap, e, Or.inr ⟨g, 0, rfl, lt_blk hg, fun j hj => ?_⟩⟩
    subst e
    rw [Nat.zero_add, World.ownsRow.cellAt h j (by omega)]
    simp [hj]
end Go.Proofs.YtlhlpamciafocaaGreatDoor.L
namespace Go.Proofs.YtlhlpamciafocaaGreatDoor.L
open Go.RowKit
set_option linter.unusedVariables false
set_option linter.unusedSimpArgs false
end Go.Proofs.YtlhlpamciafocaaGreatDoor.L
namespace Go.Proofs.YtlhlpamciafocaaGreatDoor.L
open Go.RowKit Go.Shelf
set_option linter.unusedVariables false
end Go.Proofs.YtlhlpamciafocaaGreatDoor.L
namespace Go.Proofs.YtlhlpamciafocaaGreatDoor.L
open Go.RowKit
set_option linter.unusedVariables false
set_option linter.unusedSimpArgs false
section
variable {one : List Tok → PS → PRes Int}
end
end Go.Proofs.YtlhlpamciafocaaGreatDoor.L
namespace Go.Proofs.YtlhlpamciafocaaGreatDoor.L
open Go.RowKit Go.Shelf
set_option linter.unusedVariables false
set_option linter.unusedSimpArgs false
theorem tk_out {T : List Tok} {i : Nat} (h : ¬ i < T.length) : (tk T i).kind = 0 := by
  unfold tk
  rw [List.getD_eq_getElem?_getD, List.getElem?_eq_none (by omega)]
  rfl
theorem tk_mem {T : List Tok} {i : Nat} (h : i < T.length) : tk T i ∈ T := by
  unfold tk
  rw [List.getD_eq_getElem?_getD, List.getElem?_eq_getElem h]
  exact List.getElem_mem h
/-- A token of the source that isn't its end. -/
theorem tk_spec {src : ByteArray} (h : (scanT src).2 = none) {i : Nat} (hk : (tk (scanT src).1 i).kind ≠ 0) : i + 1 < (scanT src).1.length ∧ (tk (scanT src).1 i).a < src.size ∧ tokS src (tk (scanT src).1 i).a = .ok (tk (scanT src).1 i) ∧ (tk (scanT src).1 i).a < (tk (scanT src).1 i).e ∧ (tk (scanT src).1 i).e ≤ src.size := by
  have hi : i < (scanT src).1.length := Classical.byContradiction fun hn => hk (tk_out hn)
  have h1 := (scan_fin2 h).2 i hi hk
  obtain ⟨_, l, hl, hs⟩ := scan_shape h
  have hm : tk (scanT src).1 i ∈ l := by
    have h2 := tk_mem hi
    rw [hl] at h2
    rcases List.mem_append.1 h2 with h3 | h3
    · rw [hl]; exact h3
    · rw [hl] at hk
      rw [List.mem_singleton] at h3
      rw [h3] at hk
      exact absurd rfl hk
  obtain ⟨h2, h3, h4⟩ := hs _ hm
  have h5 := tok_in h2 h3
  exact ⟨h1, h2, h3, h5.2.1, h5.2.2⟩
end Go.Proofs.YtlhlpamciafocaaGreatDoor.L
namespace Go.Proofs.YtlhlpamciafocaaGreatDoor.L
open Go.RowKit
set_option linter.unusedVariables false
set_option linter.unusedSimpArgs false
/-- No fault without a number. -/
def Nz {α : Type} (r : PRes α) : Prop := ∀ c x, r = .error (c, x) → c ≠ 0
theorem nz_ok {α : Type} (q : α × PS) : Nz (.ok q : PRes α) := fun c x h => by cases h
theorem nz_err {α : Type} {c : Nat} {x : Int} (h : c ≠ 0) : Nz (.error (c, x) : PRes α) := fun c' x' e => by
  injection e with e
  injection e with e1 e2
  rw [← e1]; exact h
theorem nz_put (s : PS) (p : Pt) (x : Int) : Nz (putP s p x) := nz_ok _
theorem nz_ref {α : Type} (T : List Tok) (s : PS) : Nz (.error (rfE T s) : PRes α) := by
  refine nz_err (c := (rfE T s).1) (x := (rfE T s).2) ?_
  unfold rfE
  simp only
  split <;> decide
theorem nz_bnd {α β : Type} {p : PRes α} {f : α → PS → PRes β} (hp : Nz p) (hf : ∀ a s1, p = .ok (a, s1) → Nz (f a s1)) : Nz (bnd p f) := by
  cases p with
  | error q =>
    obtain ⟨c, x⟩ := q
    rw [bnd_bad]
    exact nz_err (hp c x rfl)
  | ok q =>
    obtain ⟨a, s1⟩ := q
    rw [bnd_ok]
    exact hf a s1 rfl
theorem nz_ite {α : Type} {c : Prop} [Decidable c] {p q : PRes α} (hp : c → Nz p) (hq : ¬ c → Nz q) : Nz (if c then p else q) := by
  by_cases h : c
  · rw [if_pos h]; exact hp h
  · rw [if_neg h]; exact hq h
theorem open_kind {T : List Tok} {s s' : PS} {m : List UInt8} {u : Unit} (h : openP T s m = .ok (u, s')) : (tk T s.nx).kind ≠ 0 := by
  unfold openP at h
  split at h
  · rename_i h1
    exact isM_kind h1
  · cases h
theorem nz_mark (T : List Tok) (s : PS) (m : List UInt8) : Nz (markP T s m) := nz_ite (fun _ => nz_ok _) (fun _ => nz_ref T s)
theorem nz_text (T : List Tok) (s : PS) : Nz (textP T s) := nz_ite (fun _ => nz_ok _) (fun _ => nz_ref T s)
theorem nz_open (T : List Tok) (s : PS) (m : List UInt8) : Nz (openP T s m) := nz_ite (fun _ => nz_ite (fun _ => nz_err (by decide)) (fun _ => nz_ok _)) (fun _ => nz_ref T s)
theorem nz_field (T : List Tok) (s : PS) : Nz (fieldP T s) := nz_ite (fun _ => nz_ref T s) (fun _ => nz_ok _)
theorem nz_el (T : List Tok) (s : PS) : Nz (elP T s) := nz_ite (fun _ => nz_put _ _ _) (fun _ => nz_put _ _ _)
theorem nz_mem (T : List Tok) (s : PS) (n : Nat) : Nz (memP T s n) := nz_ite (fun _ => nz_ite (fun _ => nz_err (by decide)) (fun _ => nz_el T s)) (fun _ => nz_ref T s)
theorem nz_mems (T : List Tok) : ∀ (n : Nat) (ks : List Int) (s : PS), Nz (memsP T n ks s)
  | 0, ks, s => nz_ok _
  | n + 1, ks, s => nz_ite (fun _ => nz_bnd (nz_mem _ _ _) fun k s1 _ => nz_mems T n _ s1) (fun _ => nz_ok _)
theorem nz_set (T : List Tok) (s : PS) : Nz (setP T s) :=
  nz_bnd (nz_mark _ _ _) fun _ s1 _ => nz_bnd (nz_ite (fun _ => nz_ok _) (fun _ => nz_bnd (nz_mem _ _ _) fun k s2 _ => nz_ok _)) fun ks s2 _ => nz_bnd (nz_mems _ _ _ _) fun ks s3 _ => nz_bnd (nz_mark _ _ _) fun _ s4 _ => nz_put _ _ _
theorem nz_named (T : List Tok) (s : PS) : Nz (namedP T s) := nz_bnd (nz_mark _ _ _) fun _ s1 _ => nz_bnd (nz_text _ _) fun t s2 _ => nz_bnd (nz_mark _ _ _) fun _ s3 _ => nz_ok _
theorem nz_who (T : List Tok) (s : PS) (side : Int) : Nz (whoP T s side) :=
  nz_ite (fun _ => nz_bnd (nz_text _ _) fun t s1 _ => nz_bnd (nz_mark _ _ _) fun _ s2 _ => nz_put _ _ _) (fun _ => nz_bnd (nz_mark _ _ _) fun _ s1 _ => nz_bnd (nz_field _ _) fun k s2 _ => nz_ite (fun _ => nz_bnd (nz_named _ _) fun t s3 _ => nz_put _ _ _) (fun _ => nz_put _ _ _))
theorem nz_tol (T : List Tok) (s : PS) : Nz (tolP T s) := nz_bnd (nz_named _ _) fun t s1 _ => nz_put _ _ _
section
variable {T : List Tok} {one : PS → PRes Int} {lo : Nat}
theorem nz_rows (h : ∀ s, lo ≤ s.nx → Nz (one s)) (hg : Gone one) (m : List UInt8) : ∀ (n : Nat) (ks : List Int) (s : PS), lo ≤ s.nx → Nz (rowsP T one m n ks s)
  | 0, ks, s, hl => nz_ok _
  | n + 1, ks, s, hl => nz_ite (fun _ => nz_bnd (h _ (Nat.le_trans hl (Nat.le_succ _))) fun k s1 e => nz_rows h hg m n _ s1 (by have := (hg _ _ _ e).nx; simp only [adv] at this; omega)) (fun _ => nz_ok _)
theorem nz_row (h : ∀ s, lo ≤ s.nx → Nz (one s)) (hg : Gone one) (kd : Int) (m : List UInt8) (s : PS) (hl : lo ≤ s.nx) : Nz (rowP T one kd m s) :=
  nz_bnd (h s hl) fun k0 s1 e => nz_bnd (nz_rows h hg m _ _ s1 (by have := (hg _ _ _ e).nx; omega)) fun ks s2 _ => nz_ite (fun _ => nz_ok _) (fun _ => nz_put _ _ _)
theorem nz_with {α : Type} {inner : PS → PRes α} (s : PS) (h : ∀ s1, s.nx + 1 ≤ s1.nx → (tk T s.nx).kind ≠ 0 → Nz (inner s1)) : Nz (withP T inner s) :=
  nz_bnd (nz_open _ _ _) fun _ s1 e => nz_bnd (h s1 (by have := (gn_open e).nx; omega) (open_kind e)) fun k s2 _ => nz_bnd (nz_mark _ _ _) fun _ s3 _ => nz_ok _
theorem nz_sel (s : PS) (h : ∀ s1, s.nx + 1 ≤ s1.nx → Nz (one s1)) (kd : Int) : Nz (selP T one kd s) :=
  nz_bnd (nz_with (adv s) fun s1 h1 _ => nz_bnd (nz_text _ _) fun t s2 e2 => nz_bnd (nz_mark _ _ _) fun _ s3 e3 => nz_bnd (h s3 (by have h4 := (gn_text e2).nx; have h5 := (gn_mark e3).nx; simp only [adv] at h1; omega)) fun k s4 _ => nz_ok _) fun q s5 _ => nz_put _ _ _
theorem nz_neg (s : PS) (h : ∀ s1, s.nx + 1 ≤ s1.nx → (tk T s.nx).kind ≠ 0 → Nz (one s1)) : Nz (negP T one s) :=
  nz_bnd (nz_open _ _ _) fun _ s1 e => nz_bnd (h s1 (by have := (gn_open e).nx; omega) (open_kind e)) fun k s2 _ => nz_put _ _ _
theorem nz_comp (s : PS) (hg : Gone one) (h : ∀ s1, s.nx ≤ s1.nx → Nz (one s1)) : Nz (compP T one s) := by
  refine nz_bnd (h s (Nat.le_refl _)) fun l s1 e => ?_
  cases betO (tk T s1.nx) with
  | none => exact nz_ref T s1
  | some q => exact nz_bnd (h _ (by have := (hg _ _ _ e).nx; simp only [adv]; omega)) fun r s2 _ => nz_put _ _ _
end
theorem nz_gr {T : List Tok} : ∀ (n : Nat) (g : Gr) (s : PS), 4 * (T.length - s.nx) + lvl g < n → Nz (gr T n g s)
  | 0, g, s, h => absurd h (Nat.not_lt_zero _)
  | n + 1, .expr, s, h => nz_row (lo := s.nx) (fun s1 h1 => nz_gr n .conj s1 (by simp only [lvl] at *; omega)) (gn_gr n .conj) 5 _ s (Nat.le_refl _)
  | n + 1, .conj, s, h => nz_row (lo := s.nx) (fun s1 h1 => nz_gr n .unit s1 (by simp only [lvl] at *; omega)) (gn_gr n .unit) 4 _ s (Nat.le_refl _)
  | n + 1, .unit, s, h => by
    have hb : (tk T s.nx).kind ≠ 0 → s.nx < T.length := fun hk => Classical.byContradiction fun hn => hk (tk_out hn)
    have ex : ∀ s1, s.nx + 1 ≤ s1.nx → (tk T s.nx).kind ≠ 0 → Nz (gr T n .expr s1) := fun s1 h1 hk => nz_gr n .expr s1 (by have := hb hk; simp only [lvl] at *; omega)
    have te : ∀ s1, s.nx ≤ s1.nx → Nz (gr T n .term s1) := fun s1 h1 => nz_gr n .term s1 (by simp only [lvl] at *; omega)
    show Nz (unitP T (gr T n .expr) (gr T n .unit) (gr T n .term) s)
    refine nz_ite (fun _ => nz_neg s fun s1 h1 hk => nz_gr n .unit s1 (by have := hb hk; simp only [lvl] at *; omega)) (fun _ => nz_ite (fun _ => nz_with s ex) (fun _ => ?_))
    refine nz_ite (fun h3 => ?_) (fun _ => nz_comp s (gn_gr n .term) te)
    have hk : (tk T s.nx).kind ≠ 0 := by rw [h3]; decide
    exact nz_ite (fun _ => nz_put _ _ _) (fun _ => nz_ite (fun _ => nz_put _ _ _) (fun _ => nz_ite (fun _ => nz_sel s (fun s1 h1 => ex s1 h1 hk) 8) (fun _ => nz_ite (fun _ => nz_sel s (fun s1 h1 => ex s1 h1 hk) 9) (fun _ => nz_ite (fun _ => nz_tol _ _) (fun _ => nz_comp s (gn_gr n .term) te)))))
  | n + 1, .term, s, h => by
    have hb : (tk T s.nx).kind ≠ 0 → s.nx < T.length := fun hk => Classical.byContradiction fun hn => hk (tk_out hn)
    show Nz (termP T (gr T n .expr) (gr T n .term) s)
    refine nz_ite (fun _ => nz_el _ _) (fun _ => nz_ite (fun _ => nz_set _ _) (fun _ => nz_ite (fun h3 => ?_) (fun _ => nz_ref _ _)))
    have hk : (tk T s.nx).kind ≠ 0 := by rw [h3]; decide
    have hl := hb hk
    have ex : ∀ s1, s.nx + 1 ≤ s1.nx → Nz (gr T n .expr s1) := fun s1 h1 => nz_gr n .expr s1 (by simp only [lvl] at *; omega)
    have te : ∀ s1, s.nx + 1 ≤ s1.nx → Nz (gr T n .term s1) := fun s1 h1 => nz_gr n .term s1 (by simp only [lvl] at *; omega)
    exact nz_ite (fun _ => nz_who _ _ _) (fun _ => nz_ite (fun _ => nz_who _ _ _) (fun _ => nz_ite (fun _ => nz_who _ _ _) (fun _ => nz_ite (fun _ => nz_bnd (nz_with (adv s) fun s1 h1 _ => te s1 (by simp only [adv] at h1; omega)) fun k s1 _ => nz_put _ _ _) (fun _ => nz_ite (fun _ => nz_sel s ex 20) (fun _ => nz_ref _ _)))))
end Go.Proofs.YtlhlpamciafocaaGreatDoor.L
