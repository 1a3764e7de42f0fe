import Derived.Test.YtlhlpamciafocaaGreatDoorMgAR
import Derived.Test.YtlhlpamciafocaaGreatDoorMgAB
namespace Go.Proofs.YtlhlpamciafocaaGreatDoor.L
open Go.RowKit Go.Shelf
set_option linter.unusedVariables false
set_option linter.unusedSimpArgs false
theorem ext_head {s : ByteArray} {k e : Nat} {c : UInt8} {l : List UInt8} (h1 : k < e) (h2 : e ≤ s.size) (h : (s.extract k e).toList = c :: l) : bt s k = c := by
  have := bt_ext s k e 0 (by omega) h2
  rw [Nat.add_zero] at this
  rw [← this]
  unfold bt
  rw [ByteArray.toList_eq] at h
  rw [h]
  rfl
theorem txS_len (s : ByteArray) (f : Nat) : ∀ (n k : Nat) (l l' : List UInt8) (e : Nat), s.size - k = n → txS s f k l = .ok l' e → l'.length ≤ 127 := by
  intro n
  induction n using Nat.strongRecOn with
  | ind n ih =>
    intro k l l' e hn h
    by_cases hlt : k < s.size
    · by_cases c : bt s k = 34
      · rw [txS_q s f k l hlt c] at h
        split at h
        · exact TR.noConfusion h
        · obtain ⟨rfl, _⟩ := TR.ok.inj h
          omega
      · by_cases d : bt s k = 92
        · by_cases e0 : (esc3 s k).2 = 0
          · rw [txS_e0 s f k l hlt d e0] at h
            exact TR.noConfusion h
          · rw [txS_e s f k l hlt d e0] at h
            exact ih (s.size - (k + (esc3 s k).2)) (by omega) _ _ _ _ rfl h
        · by_cases e0 : iv (bt s k) < 32
          · rw [txS_low s f k l hlt c d e0] at h
            exact TR.noConfusion h
          · rw [txS_go s f k l hlt c d e0] at h
            exact ih (s.size - (k + 1)) (by omega) _ _ _ _ rfl h
    · rw [txS_end s f k l hlt] at h
      exact TR.noConfusion h
theorem tok_head {s : ByteArray} {k : Nat} {t : Tok} (hk : k < s.size) (h : tokS s k = .ok t) : (t.kind = 1 → bt s k = 34 ∧ t.text.size ≤ 127) ∧ (t.kind = 2 → digB (iv (bt s k)) = true ∨ bt s k = 45) ∧ ((t.kind = 3 ∨ t.kind = 4) → ∀ c l, t.text.toList = c :: l → bt s k = c) := by
  have hin := tok_in hk h
  unfold tokS at h
  split at h
  · rename_i h34
    cases hx : txS s k (k + 1) [] with
    | bad c a => rw [hx] at h; exact RR.noConfusion h
    | ok l e =>
      rw [hx] at h
      have hl := txS_len s k _ (k + 1) [] l e rfl hx
      have ht := RR.ok.inj h
      subst ht
      exact ⟨fun _ => ⟨h34, by show l.toArray.size ≤ 127; simpa using hl⟩, fun h2 => (by cases h2), fun h2 => (by rcases h2 with h2 | h2 <;> cases h2)⟩
  · split at h
    · rename_i hd
      unfold numTok at h
      split at h
      · exact RR.noConfusion h
      · have ht := RR.ok.inj h
        subst ht
        refine ⟨fun h1 => (by cases h1), fun _ => ?_, fun h2 => (by rcases h2 with h2 | h2 <;> cases h2)⟩
        rcases hd with hd | hd
        · exact Or.inl hd
        · exact Or.inr hd.1
    · split at h
      · have ht := RR.ok.inj h
        subst ht
        exact ⟨fun h1 => (by cases h1), fun h2 => (by cases h2), fun _ c l hc => ext_head hin.2.1 hin.2.2 hc⟩
      · unfold markS at h
        split at h
        · have ht := RR.ok.inj h
          subst ht
          exact ⟨fun h1 => (by cases h1), fun h2 => (by cases h2), fun _ c l hc => ext_head hin.2.1 hin.2.2 hc⟩
        · split at h
          · have ht := RR.ok.inj h
            subst ht
            exact ⟨fun h1 => (by cases h1), fun h2 => (by cases h2), fun _ c l hc => ext_head hin.2.1 hin.2.2 hc⟩
          · exact RR.noConfusion h
/-- The byte with which a part begins. -/
def BgC (k n : Int) (c : UInt8) : Prop :=
  (k = 3 ∧ c = 33) ∨ (k = 4 ∧ c = 38) ∨ (k = 5 ∧ c = 124) ∨ (k = 13 ∧ c = 123) ∨ (k = 6 ∧ (c = 61 ∨ c = 33 ∨ c = 60 ∨ c = 62)) ∨ (k = 11 ∧ c = 34) ∨ (k = 12 ∧ (c = 45 ∨ digB (iv c) = true)) ∨
  (k = 7 ∧ n = 0 ∧ c = 105) ∨ (k = 7 ∧ n = 1 ∧ c = 110) ∨ (k = 1 ∧ c = 116) ∨ (k = 2 ∧ c = 102) ∨ (k = 8 ∧ c = 110) ∨ (k = 9 ∧ c = 97) ∨ (k = 10 ∧ c = 116) ∨ (k = 19 ∧ c = 105) ∨ (k = 20 ∧ c = 99) ∨
  ((k = 14 ∨ k = 15 ∨ k = 16 ∨ k = 17 ∨ k = 18) ∧ ((n = 2 ∧ c = 110) ∨ (n = 1 ∧ c = 112) ∨ (n = 3 ∧ c = 105)))
theorem cmp_head {l : List UInt8} (h : cmpO l ≠ 0) : ∃ c r, l = c :: r ∧ (c = 61 ∨ c = 33 ∨ c = 60 ∨ c = 62) := by
  unfold cmpO at h
  repeat' (split at h)
  all_goals first | (rename_i e; subst e; exact ⟨_, _, rfl, by decide⟩) | (exact absurd rfl h)
theorem bg_byte {src : ByteArray} {t : Tok} {k n : Int} {c : UInt8} (hb : BgT k n t) (h1 : t.kind = 1 → c = 34) (h2 : t.kind = 2 → digB (iv c) = true ∨ c = 45) (h3 : (t.kind = 3 ∨ t.kind = 4) → ∀ d l, t.text.toList = d :: l → c = d) : BgC k n c := by
  unfold BgT at hb
  unfold BgC
  rcases hb with ⟨h4, hb⟩ | ⟨h4, hb⟩ | ⟨h4, hb⟩ | ⟨h4, hb⟩
  · have h5 := h3 (Or.inr h4)
    rcases hb with ⟨hk, hb⟩ | ⟨hk, hb⟩ | ⟨hk, hb⟩ | ⟨hk, hb⟩ | ⟨hk, hb⟩
    · have := h5 _ _ hb; simp [hk, this]
    · have := h5 _ _ hb; simp [hk, this]
    · have := h5 _ _ hb; simp [hk, this]
    · have := h5 _ _ hb; simp [hk, this]
    · obtain ⟨d, r, e, hd⟩ := cmp_head hb
      have := h5 _ _ e
      rw [← this] at hd
      exact Or.inr (Or.inr (Or.inr (Or.inr (Or.inl ⟨hk, hd⟩))))
  · have := h1 h4; simp [hb, this]
  · exact Or.inr (Or.inr (Or.inr (Or.inr (Or.inr (Or.inr (Or.inl ⟨hb, (h2 h4).symm⟩))))))
  · have h5 := h3 (Or.inl h4)
    rcases hb with ⟨hk, hn, hb⟩ | ⟨hk, hn, hb⟩ | ⟨hk, hb⟩ | ⟨hk, hb⟩ | ⟨hk, hb⟩ | ⟨hk, hb⟩ | ⟨hk, hb⟩ | ⟨hk, hb⟩ | ⟨hk, hb⟩ | ⟨hk, hb⟩
    · have := h5 _ _ hb; simp [hk, hn, this]
    · have := h5 _ _ hb; simp [hk, hn, this]
    · have := h5 _ _ hb; simp [hk, this]
    · have := h5 _ _ hb; simp [hk, this]
    · have := h5 _ _ hb; simp [hk, this]
    · have := h5 _ _ hb; simp [hk, this]
    · have := h5 _ _ hb; simp [hk, this]
    · have := h5 _ _ hb; simp [hk, this]
    · have := h5 _ _ hb; simp [hk, this]
    · refine Or.inr (Or.inr (Or.inr (Or.inr (Or.inr (Or.inr (Or.inr (Or.inr (Or.inr (Or.inr (Or.inr (Or.inr (Or.inr (Or.inr (Or.inr (Or.inr ⟨hk, ?_⟩)))))))))))))))
      rcases hb with ⟨hn, hb⟩ | ⟨hn, hb⟩ | ⟨hn, hb⟩
      · exact Or.inl ⟨hn, h5 _ _ hb⟩
      · exact Or.inr (Or.inl ⟨hn, h5 _ _ hb⟩)
      · exact Or.inr (Or.inr ⟨hn, h5 _ _ hb⟩)
theorem bgT_kind {k n : Int} {t : Tok} (hb : BgT k n t) : t.kind ≠ 0 := by
  unfold BgT at hb
  omega
theorem scan_txt {src : ByteArray} (h : (scanT src).2 = none) : Txt (scanT src).1 := fun i hk => by
  obtain ⟨_, h2, h3, _, _⟩ := tk_spec h (i := i) (by rw [hk]; decide)
  exact ((tok_head h2 h3).1 hk).2
theorem bgt_byte {src : ByteArray} (h : (scanT src).2 = none) {p : Pt} {x : Int} (hb : Bgt (scanT src).1 p x) : ∃ n : Nat, x = (n : Int) ∧ n < src.size ∧ BgC p.kind p.num (bt src n) := by
  obtain ⟨i, hx, hb⟩ := hb
  obtain ⟨_, h2, h3, _, _⟩ := tk_spec h (bgT_kind hb)
  have ⟨a1, a2, a3⟩ := tok_head h2 h3
  exact ⟨_, hx, h2, bg_byte (src := src) hb (fun hk => (a1 hk).1) a2 a3⟩
theorem gs_zero (T : List Tok) : Gs T [] ⟨0, 0, [], []⟩ := ⟨rfl, rfl, fun j hj => absurd hj (Nat.not_lt_zero _)⟩
/-- What stands of a tree that was read. -/
structure Rdd (src : ByteArray) (s : PS) : Prop where
  len : s.os.length = s.ps.length
  top : (fre s.ps s.ps.length).length = 1
  most : s.ps.length ≤ 1000
  ok : ∀ j, j < s.ps.length → (pt s.ps j).kids.length ≤ (fre s.ps j).length ∧ (pt s.ps j).kids = (fre s.ps j).drop ((fre s.ps j).length - (pt s.ps j).kids.length) ∧ (pt s.ps j).text.size ≤ 127 ∧ Ari (pt s.ps j).kind (pt s.ps j).kids.length
  bg : ∀ j, j < s.ps.length → ∃ n : Nat, s.os.getD j 0 = (n : Int) ∧ n < src.size ∧ BgC (pt s.ps j).kind (pt s.ps j).num (bt src n)
theorem either_ok {src : ByteArray} {s : PS} (h : parR src = .ok s) : Rdd src s := by
  unfold parR at h
  cases hs : (scanT src).2 with
  | some q => obtain ⟨c, a⟩ := q; rw [hs] at h; cases h
  | none =>
    rw [hs] at h
    simp only at h
    cases hw : wholeP (scanT src).1 16392 with
    | error q => rw [hw] at h; cases h
    | ok q =>
      obtain ⟨u, s1⟩ := q
      rw [hw] at h
      simp only [Except.ok.injEq] at h
      subst h
      unfold wholeP at hw
      obtain ⟨k, s2, e1, e2⟩ := bnd_inv hw
      have g := fo_gr (scan_txt hs) _ _ _ _ _ _ (gs_zero _) e1
      split at e2
      · split at e2
        · cases e2
        · rename_i h1000
          injection e2 with e2; injection e2 with _ e2; subst e2
          exact ⟨g.len, by rw [g.fr]; rfl, by omega, fun j hj => by have h5 := g.ok j hj; exact ⟨h5.1, h5.2.1, h5.2.2.1, h5.2.2.2.1⟩, fun j hj => bgt_byte hs (g.ok j hj).2.2.2.2⟩
      · cases e2
theorem ft_at {src : ByteArray} (h : (scanT src).2 = none) {i c : Nat} {x : Int} (hf : Ft (scanT src).1 i c x) : 120 ≤ c ∧ c ≤ 124 ∧ 0 ≤ x ∧ x ≤ (src.size : Int) := by
  have ha : (tk (scanT src).1 i).a ≤ src.size := by
    by_cases h0 : (tk (scanT src).1 i).kind = 0
    · by_cases hi : i < (scanT src).1.length
      · obtain ⟨_, l, hl, hs⟩ := scan_shape h
        have h4 := tk_mem hi
        have h6 : tk (scanT src).1 i ∈ l ∨ tk (scanT src).1 i = tokE src.size := by
          rw [hl] at h4
          rcases List.mem_append.1 h4 with h5 | h5
          · rw [hl]; exact Or.inl h5
          · rw [hl]; exact Or.inr (List.mem_singleton.1 h5)
        rcases h6 with h5 | h5
        · exact Nat.le_of_lt (hs _ h5).1
        · rw [h5]; exact Nat.le_refl _
      · unfold tk
        rw [List.getD_eq_getElem?_getD, List.getElem?_eq_none (by omega)]
        exact Nat.zero_le _
    · exact Nat.le_of_lt (tk_spec h h0).2.1
  have h1 := hf.1
  have h2 := hf.2
  omega
theorem either_bad {src : ByteArray} {c : Nat} {x : Int} (h : parR src = .error (c, x)) : ((110 ≤ c ∧ c ≤ 115) ∨ (120 ≤ c ∧ c ≤ 124)) ∧ 0 ≤ x ∧ x ≤ (src.size : Int) := by
  have hcode := parR_code h
  unfold parR at h
  cases hs : (scanT src).2 with
  | some q =>
    obtain ⟨c', a'⟩ := q
    rw [hs] at h
    simp only [Except.error.injEq, Prod.mk.injEq] at h
    have hc := scanT_codes hs
    have ha : a' ≤ src.size := by
      unfold scanT at hs
      split at hs
      · exact Nat.le_of_lt (scan_at src _ 0 rfl c' a' hs)
      · rename_i h0
        injection hs with hs; injection hs with _ hs
        omega
    omega
  | none =>
    rw [hs] at h
    simp only at h
    cases hw : wholeP (scanT src).1 16392 with
    | ok q => rw [hw] at h; cases h
    | error q =>
      rw [hw] at h
      simp only [Except.error.injEq] at h
      subst h
      unfold wholeP at hw
      cases hg : gr (scanT src).1 16392 .expr ⟨0, 0, [], []⟩ with
      | error q =>
        obtain ⟨c', x'⟩ := q
        rw [hg, bnd_bad] at hw
        injection hw with hw
        injection hw with e1 e2
        subst e1
        subst e2
        obtain ⟨i, _, h4, _⟩ := (loc_gr 16392 .expr (scanT src).1 ⟨0, 0, [], []⟩).2 _ _ hg
        rcases h4 with ⟨h4, _⟩ | h4
        · exact absurd h4 hcode
        · have := ft_at hs h4
          omega
      | ok q =>
        obtain ⟨k, s2⟩ := q
        rw [hg, bnd_ok] at hw
        have g := fo_gr (scan_txt hs) _ _ _ _ _ _ (gs_zero _) hg
        split at hw
        · split at hw
          · rename_i h1000
            injection hw with hw
            injection hw with e1 e2
            obtain ⟨n, hn, hlt, _⟩ := bgt_byte hs (g.ok 1000 h1000).2.2.2.2
            rw [e2] at hn
            omega
          · cases hw
        · injection hw with hw
          have hf := ft_ref (scanT src).1 s2
          rw [hw] at hf
          have := ft_at hs hf
          simp only at this
          omega
end Go.Proofs.YtlhlpamciafocaaGreatDoor.L
namespace Go.Proofs.YtlhlpamciafocaaGreatDoor.L
open Go.RowKit
set_option linter.unusedVariables false
set_option linter.unusedSimpArgs false
end Go.Proofs.YtlhlpamciafocaaGreatDoor.L
namespace Go.Proofs.YtlhlpamciafocaaGreatDoor.L
open Go.RowKit Go.Shelf
set_option linter.unusedVariables false
set_option linter.unusedSimpArgs false
end Go.Proofs.YtlhlpamciafocaaGreatDoor.L
namespace Go.Proofs.YtlhlpamciafocaaGreatDoor.L
open Go.RowKit
set_option linter.unusedVariables false
set_option linter.unusedSimpArgs false
/-- More strength changes nothing but the fault without a number. -/
def Mo {α : Type} (p p' : PRes α) : Prop := p = .error (0, 0) ∨ p' = p
theorem mo_rfl {α : Type} (p : PRes α) : Mo p p := Or.inr rfl
theorem mo_trans {α : Type} {p q r : PRes α} (h1 : Mo p q) (h2 : Mo q r) : Mo p r := by
  rcases h1 with h1 | h1
  · exact Or.inl h1
  · rcases h2 with h2 | h2
    · exact Or.inl (by rw [← h1]; exact h2)
    · exact Or.inr (by rw [h2, h1])
theorem mo_bnd {α β : Type} {p p' : PRes α} {f f' : α → PS → PRes β} (hp : Mo p p') (hf : ∀ a s, Mo (f a s) (f' a s)) : Mo (bnd p f) (bnd p' f') := by
  rcases hp with hp | hp
  · exact Or.inl (by rw [hp]; rfl)
  · rw [hp]
    match p with
    | .ok (a, s) => exact hf a s
    | .error e => exact mo_rfl _
theorem mo_if {α : Type} {c : Prop} [Decidable c] {p q p' q' : PRes α} (hp : Mo p p') (hq : Mo q q') : Mo (if c then p else q) (if c then p' else q') := by
  by_cases h : c
  · rw [if_pos h, if_pos h]; exact hp
  · rw [if_neg h, if_neg h]; exact hq
section
variable {T : List Tok} {one one' ex ex' te te' un un' : PS → PRes Int}
theorem mo_rows (h : ∀ s, Mo (one s) (one' s)) (m : List UInt8) : ∀ (n : Nat) (ks : List Int) (s : PS), Mo (rowsP T one m n ks s) (rowsP T one' m n ks s)
  | 0, ks, s => mo_rfl _
  | n + 1, ks, s => mo_if (mo_bnd (h _) fun k s1 => mo_rows h m n _ s1) (mo_rfl _)
theorem mo_row (h : ∀ s, Mo (one s) (one' s)) (kd : Int) (m : List UInt8) (s : PS) : Mo (rowP T one kd m s) (rowP T one' kd m s) :=
  mo_bnd (h s) fun k0 s1 => mo_bnd (mo_rows h m _ _ s1) fun ks s2 => mo_rfl _
theorem mo_with {α : Type} {inn inn' : PS → PRes α} (h : ∀ s, Mo (inn s) (inn' s)) (s : PS) : Mo (withP T inn s) (withP T inn' s) :=
  mo_bnd (mo_rfl _) fun _ s1 => mo_bnd (h s1) fun k s2 => mo_rfl _
theorem mo_sel (h : ∀ s, Mo (ex s) (ex' s)) (kd : Int) (s : PS) : Mo (selP T ex kd s) (selP T ex' kd s) :=
  mo_bnd (mo_with (fun s1 => mo_bnd (mo_rfl _) fun t s2 => mo_bnd (mo_rfl _) fun _ s3 => mo_bnd (h s3) fun k s4 => mo_rfl _) _) fun q s5 => mo_rfl _
theorem mo_neg (h : ∀ s, Mo (un s) (un' s)) (s : PS) : Mo (negP T un s) (negP T un' s) :=
  mo_bnd (mo_rfl _) fun _ s1 => mo_bnd (h s1) fun k s2 => mo_rfl _
theorem mo_comp (h : ∀ s, Mo (te s) (te' s)) (s : PS) : Mo (compP T te s) (compP T te' s) := by
  refine mo_bnd (h s) fun l s1 => ?_
  cases betO (tk T s1.nx) with
  | none => exact mo_rfl _
  | some q => exact mo_bnd (h _) fun r s2 => mo_rfl _
theorem mo_atom (h1 : ∀ s, Mo (ex s) (ex' s)) (h2 : ∀ s, Mo (te s) (te' s)) (s : PS) : Mo (atomP T ex te s) (atomP T ex' te' s) :=
  mo_if (mo_if (mo_rfl _) (mo_if (mo_rfl _) (mo_if (mo_sel h1 8 s) (mo_if (mo_sel h1 9 s) (mo_if (mo_rfl _) (mo_comp h2 s)))))) (mo_comp h2 s)
theorem mo_word (h1 : ∀ s, Mo (ex s) (ex' s)) (h2 : ∀ s, Mo (te s) (te' s)) (s : PS) : Mo (wordP T ex te s) (wordP T ex' te' s) :=
  mo_if (mo_rfl _) (mo_if (mo_rfl _) (mo_if (mo_rfl _) (mo_if (mo_bnd (mo_with h2 _) fun k s1 => mo_rfl _) (mo_if (mo_sel h1 20 s) (mo_rfl _)))))
end
theorem mo_gr {T : List Tok} : ∀ (n : Nat) (g : Gr) (s : PS), Mo (gr T n g s) (gr T (n + 1) g s)
  | 0, g, s => Or.inl rfl
  | n + 1, .expr, s => mo_row (mo_gr n .conj) 5 _ s
  | n + 1, .conj, s => mo_row (mo_gr n .unit) 4 _ s
  | n + 1, .unit, s => mo_if (mo_neg (mo_gr n .unit) s) (mo_if (mo_with (mo_gr n .expr) s) (mo_atom (mo_gr n .expr) (mo_gr n .term) s))
  | n + 1, .term, s => mo_if (mo_rfl _) (mo_if (mo_rfl _) (mo_if (mo_word (mo_gr n .expr) (mo_gr n .term) s) (mo_rfl _)))
theorem mo_le {T : List Tok} (g : Gr) (s : PS) (n : Nat) : ∀ j, Mo (gr T n g s) (gr T (n + j) g s)
  | 0 => mo_rfl _
  | j + 1 => mo_trans (mo_le g s n j) (mo_gr (n + j) g s)
theorem gr_less {T : List Tok} {g : Gr} {s : PS} {n m : Nat} (hn : 4 * (T.length - s.nx) + lvl g < n) (hm : n ≤ m) : gr T m g s = gr T n g s := by
  obtain ⟨j, rfl⟩ : ∃ j, m = n + j := ⟨m - n, by omega⟩
  rcases mo_le g s n j with h | h
  · exact absurd rfl (nz_gr n g s hn 0 0 h)
  · exact h
section
variable {T T' : List Tok} {d e : Nat} {P : List Pt}
/-- A reader that leaves the nest as it was. -/
def Sn {α : Type} (p : PS → PRes α) : Prop := ∀ s a s', p s = .ok (a, s') → s'.ns = s.ns
theorem sn_gr (n : Nat) (g : Gr) : Sn (gr T n g) := fun s a s' h => (gn_gr n g s a s' h).ns
end
end Go.Proofs.YtlhlpamciafocaaGreatDoor.L
namespace Go.Proofs.YtlhlpamciafocaaGreatDoor.L
open Go.RowKit Go.Shelf
set_option linter.unusedVariables false
def hx (n : Nat) : UInt8 := sixteen.data.toList.getD n 0
/-- What Quote writes for a byte. -/
def qB (c : UInt8) : List UInt8 :=
  if c = 34 then [92, 34] else if c = 92 then [92, 92] else if c = 10 then [92, 110] else if c = 9 then [92, 116] else if c = 13 then [92, 114]
  else if 32 ≤ iv c ∧ iv c ≤ 126 then [c] else [92, 120, hx (c.toNat / 16), hx (c.toNat % 16)]
theorem qB_len (c : UInt8) : (qB c).length ≤ 4 := by
  unfold qB
  repeat' split
  all_goals simp
def plainB : ByteArray := ⟨#[34, 92, 10, 9, 13]⟩
theorem idx_plain (a : UInt8) (h1 : a ≠ 34) (h2 : a ≠ 92) (h3 : a ≠ 10) (h4 : a ≠ 9) (h5 : a ≠ 13) : idx plainB a = -1 := by
  have := all_u8 (p := fun a => a == 34 || a == 92 || a == 10 || a == 9 || a == 13 || decide (idx plainB a = -1)) (by decide +kernel) a
  simpa [h1, h2, h3, h4, h5] using this
set_option maxHeartbeats 2000000 in
theorem qb_two (B b : Nat) (l : List UInt8) (c v : UInt8) (w : World) (h : Bld B b l w) (hl : l.length ≤ 7000000) (hB : B ≤ w.heap.size) (hc : (c = 34 ∧ v = 34) ∨ (c = 92 ∧ v = 92) ∨ (c = 10 ∧ v = 110) ∨ (c = 9 ∧ v = 116) ∨ (c = 13 ∧ v = 114)) :
    Calls Tryz.prog 63 #[.pointer (some ⟨b, 0, none⟩), .int .u8 (iv c)] w fun e w' => e = .returned (.tuple #[]) ∧ Bld B b (l ++ [92, v]) w' ∧ Below B w w' := by
  have HI := hid (fun W => sib_any plainB c W)
  have HW1 := hid (wbyte_any B b l 92 w h (by omega) hB)
  have HW2 := hid (fun W (h : Bld B b (l ++ [92]) W) hb => wbyte_any B b (l ++ [92]) v W h (by simp; omega) hb)
  unfold plainB at HI
  rcases hc with ⟨rfl, rfl⟩ | ⟨rfl, rfl⟩ | ⟨rfl, rfl⟩ | ⟨rfl, rfl⟩ | ⟨rfl, rfl⟩ <;>
  · simp only [show ∀ c, idx ⟨#[34, 92, 10, 9, 13]⟩ c = Lib.indexByte [34, 92, 10, 9, 13] c from fun c => rfl, Lib.indexByte] at HI
    simp at HI
    simp only [iv] at HI HW1 HW2 ⊢
    simp only [UInt8.toNat_ofNat, Nat.reduceMod, Nat.reducePow, Int.cast_ofNat_Int] at HI HW1 HW2 ⊢
    go_enter Tryz.func63, Tryz.ntmps63
    go_wp2_with (go_at_call 77; refine (HI.out _).mono ?_; rintro e w1 ⟨rfl, hww⟩; subst hww)
    refine HW1.out.mono ?_
    rintro e w2 ⟨rfl, b2, l2, o2⟩
    have L2 := hid l2
    have HW3 := hid (HW2.out w2 b2 (Nat.le_trans hB l2.size))
    clear HW2 b2 o2 l2
    go_wp2_with fail
    refine HW3.out.mono ?_
    rintro e w3 ⟨rfl, b3, l3, o3⟩
    have L3 := hid l3
    have B3 := hid b3
    clear b3 l3 o3
    go_wp2
    (try simp only [Exit.inBlock, Exit.then]); refine bodyPost_ret (results_none rfl _ _ _) rfl ?_
    exact ⟨rfl, by simpa using B3.out, L2.out.trans L3.out⟩
set_option maxHeartbeats 2000000 in
theorem qb_self (B b : Nat) (l : List UInt8) (c : UInt8) (w : World) (h : Bld B b l w) (hl : l.length ≤ 7000000) (hB : B ≤ w.heap.size) (hi : idx plainB c = -1) (h1 : 32 ≤ iv c) (h2 : iv c ≤ 126) :
    Calls Tryz.prog 63 #[.pointer (some ⟨b, 0, none⟩), .int .u8 (iv c)] w fun e w' => e = .returned (.tuple #[]) ∧ Bld B b (l ++ [c]) w' ∧ Below B w w' := by
  have HI := hid (fun W => sib_any plainB c W)
  rw [hi] at HI
  have HW1 := hid (wbyte_any B b l c w h (by omega) hB)
  unfold plainB at HI
  clear hi h
  generalize iv c = x at *
  go_enter Tryz.func63, Tryz.ntmps63
  go_wp2_with (go_at_call 77; refine (HI.out _).mono ?_; rintro e w1 ⟨rfl, hww⟩; subst hww)
  refine HW1.out.mono ?_
  rintro e w2 ⟨rfl, b2, l2, o2⟩
  have B2 := hid b2
  have L2 := hid l2
  clear b2 l2 o2
  go_wp2
  (try simp only [Exit.inBlock, Exit.then]); refine bodyPost_ret (results_none rfl _ _ _) rfl ?_
  exact ⟨rfl, B2.out, L2.out⟩
theorem hx_hi (c : UInt8) : (iv c) / 16 = ((c.toNat / 16 : Nat) : Int) := by unfold iv; omega
theorem and_low (c : UInt8) : bits BinOp.and IntKind.u8 (iv c) 15 = ((c.toNat % 16 : Nat) : Int) := by
  have := all_u8 (p := fun c => decide (bits BinOp.and IntKind.u8 (iv c) 15 = ((c.toNat % 16 : Nat) : Int))) (by decide +kernel) c
  simpa using this
theorem hx_get (n : Nat) (h : n < sixteen.size) : ((sixteen[n]'h).toNat : Int) = iv (hx n) := by
  rw [show hx n = bt sixteen n from rfl, bt_get sixteen n h]
  rfl
set_option maxHeartbeats 4000000 in
theorem qb_hex (B b : Nat) (l : List UInt8) (c : UInt8) (w : World) (h : Bld B b l w) (hl : l.length ≤ 7000000) (hB : B ≤ w.heap.size) (hi : idx plainB c = -1) (h1 : ¬ (32 ≤ iv c ∧ iv c ≤ 126)) :
    Calls Tryz.prog 63 #[.pointer (some ⟨b, 0, none⟩), .int .u8 (iv c)] w fun e w' => e = .returned (.tuple #[]) ∧ Bld B b (l ++ [92, 120, hx (c.toNat / 16), hx (c.toNat % 16)]) w' ∧ Below B w w' := by
  have HI := hid (fun W => sib_any plainB c W)
  rw [hi] at HI
  have HW1 := hid (wstr_any B b l ⟨#[92, 120]⟩ w h (by omega) (by decide) hB)
  have HW2 := hid (fun W (h : Bld B b (l ++ [92, 120]) W) hb => wbyte_any B b (l ++ [92, 120]) (hx (c.toNat / 16)) W h (by simp; omega) hb)
  have HW3 := hid (fun W (h : Bld B b (l ++ [92, 120] ++ [hx (c.toNat / 16)]) W) hb => wbyte_any B b (l ++ [92, 120] ++ [hx (c.toNat / 16)]) (hx (c.toNat % 16)) W h (by simp; omega) hb)
  have hn : c.toNat / 16 < 16 := by have := c.toNat_lt; omega
  have hm : c.toNat % 16 < 16 := by omega
  have ea := hx_hi c
  have eb := and_low c
  have ha := hx_get (c.toNat / 16) hn
  have hb := hx_get (c.toNat % 16) hm
  unfold plainB at HI
  unfold sixteen at ha hb
  clear hi h
  obtain ⟨x, hx'⟩ : ∃ x, iv c = x := ⟨_, rfl⟩
  rw [hx'] at HI h1 ea eb ⊢
  generalize hx (c.toNat / 16) = p at *
  generalize hx (c.toNat % 16) = q at *
  generalize c.toNat / 16 = n at *
  generalize c.toNat % 16 = m at *
  generalize iv p = P1 at *
  generalize iv q = Q1 at *
  by_cases c1 : 32 ≤ x
  · have c2 : ¬ x ≤ 126 := by omega
    clear h1
    go_enter Tryz.func63, Tryz.ntmps63
    go_wp2_with (go_at_call 77; refine (HI.out _).mono ?_; rintro e w1 ⟨rfl, hww⟩; subst hww)
    refine HW1.out.mono ?_
    rintro e w2 ⟨rfl, b2, l2, o2⟩
    have L2 := hid l2
    have h2 := Nat.le_trans hB l2.size
    have HW2 := hid (HW2.out w2 b2 h2)
    clear b2 o2 l2
    go_wp2_with fail
    refine HW2.out.mono ?_
    rintro e w3 ⟨rfl, b3, l3, o3⟩
    have L3 := hid l3
    have HW3 := hid (HW3.out w3 b3 (Nat.le_trans h2 l3.size))
    clear b3 o3 l3
    go_wp2_with fail
    refine HW3.out.mono ?_
    rintro e w4 ⟨rfl, b4, l4, o4⟩
    have L4 := hid l4
    have B4 := hid b4
    clear b4 o4 l4
    go_wp2
    go_end0
    exact ⟨rfl, by simpa using B4.out, (L2.out.trans L3.out).trans L4.out⟩
  · clear h1
    go_enter Tryz.func63, Tryz.ntmps63
    go_wp2_with (go_at_call 77; refine (HI.out _).mono ?_; rintro e w1 ⟨rfl, hww⟩; subst hww)
    refine HW1.out.mono ?_
    rintro e w2 ⟨rfl, b2, l2, o2⟩
    have L2 := hid l2
    have h2 := Nat.le_trans hB l2.size
    have HW2 := hid (HW2.out w2 b2 h2)
    clear b2 o2 l2
    go_wp2_with fail
    refine HW2.out.mono ?_
    rintro e w3 ⟨rfl, b3, l3, o3⟩
    have L3 := hid l3
    have HW3 := hid (HW3.out w3 b3 (Nat.le_trans h2 l3.size))
    clear b3 o3 l3
    go_wp2_with fail
    refine HW3.out.mono ?_
    rintro e w4 ⟨rfl, b4, l4, o4⟩
    have L4 := hid l4
    have B4 := hid b4
    clear b4 o4 l4
    go_wp2
    go_end0
    exact ⟨rfl, by simpa using B4.out, (L2.out.trans L3.out).trans L4.out⟩
theorem qbyte_any (B b : Nat) (l : List UInt8) (c : UInt8) (w : World) (h : Bld B b l w) (hl : l.length ≤ 7000000) (hB : B ≤ w.heap.size) :
    Calls Tryz.prog 63 #[.pointer (some ⟨b, 0, none⟩), .int .u8 (iv c)] w fun e w' => e = .returned (.tuple #[]) ∧ Bld B b (l ++ qB c) w' ∧ Below B w w' := by
  by_cases c1 : c = 34
  · rw [show qB c = [92, 34] by rw [c1]; simp [qB]]
    exact qb_two B b l c 34 w h hl hB (by simp [c1])
  by_cases c2 : c = 92
  · rw [show qB c = [92, 92] by rw [c2]; simp [qB]]
    exact qb_two B b l c 92 w h hl hB (by simp [c2])
  by_cases c3 : c = 10
  · rw [show qB c = [92, 110] by rw [c3]; simp [qB]]
    exact qb_two B b l c 110 w h hl hB (by simp [c3])
  by_cases c4 : c = 9
  · rw [show qB c = [92, 116] by rw [c4]; simp [qB]]
    exact qb_two B b l c 116 w h hl hB (by simp [c4])
  by_cases c5 : c = 13
  · rw [show qB c = [92, 114] by rw [c5]; simp [qB]]
    exact qb_two B b l c 114 w h hl hB (by simp [c5])
  have hi := idx_plain c c1 c2 c3 c4 c5
  by_cases c6 : 32 ≤ iv c ∧ iv c ≤ 126
  · rw [show qB c = [c] by simp [qB, c1, c2, c3, c4, c5, c6]]
    exact qb_self B b l c w h hl hB hi c6.1 c6.2
  · rw [show qB c = [92, 120, hx (c.toNat / 16), hx (c.toNat % 16)] by simp only [qB, c1, c2, c3, c4, c5, c6, if_false]]
    exact qb_hex B b l c w h hl hB hi c6
/-- What Quote writes. -/
def quoteL (l : List UInt8) : List UInt8 := 34 :: l.flatMap qB ++ [34]
theorem flat_len (l : List UInt8) : (l.flatMap qB).length ≤ 4 * l.length := by
  induction l with
  | nil => simp
  | cons c l ih =>
    rw [List.flatMap_cons, List.length_append, List.length_cons]
    have := qB_len c
    omega
theorem take_bt (s : ByteArray) (k : Nat) (h : k < s.size) : s.data.toList.take (k + 1) = s.data.toList.take k ++ [bt s k] := by
  have h' : k < s.data.toList.length := by simpa using h
  rw [List.take_succ_eq_append_getElem h']
  unfold bt
  rw [List.getD_eq_getElem?_getD, List.getElem?_eq_getElem h']
  rfl
set_option maxHeartbeats 4000000 in
theorem quote_any (s : ByteArray) (w : World) (hs : s.size ≤ 1048576) :
    Calls Tryz.prog 47 #[.string s] w fun e w' => e = .returned (.string ⟨(quoteL s.data.toList).toArray⟩) ∧ Below w.heap.size w w' := by
  go_enter Tryz.func47, Tryz.ntmps47
  go_wp2_with fail
  have BD0 := hid (bld_new w)
  have BL0 := hid (belowA w (.cells #[.pointer none, .slice none 0 0] 113))
  have hZ0 : w.heap.size < (w.alloc (.cells #[.pointer none, .slice none 0 0] 113)).heap.size := by simp
  generalize w.alloc (.cells #[.pointer none, .slice none 0 0] 113) = W0 at *
  refine (wbyte_any w.heap.size w.heap.size [] 34 W0 BD0.out (by simp) (by omega)).mono ?_
  rintro e w1 ⟨rfl, b1, l1, o1⟩
  have B1 := hid (show Bld w.heap.size w.heap.size (34 :: (s.data.toList.take 0).flatMap qB) w1 by simpa using b1)
  have L1 := hid (BL0.out.trans l1)
  have hZ1 : w.heap.size < w1.heap.size := Nat.lt_of_lt_of_le hZ0 l1.size
  clear b1 l1 o1 BD0 BL0 hZ0
  have HQ := hid (fun (l : List UInt8) (c : UInt8) (W : World) h hl hB => qbyte_any w.heap.size w.heap.size l c W h hl hB)
  go_wp2_with fail
  go_loopw [8] (fun i wr => ∃ k : Nat, k ≤ s.size ∧ i = .int .i64 k ∧ Hid (Below w.heap.size w wr) ∧ w.heap.size < wr.heap.size ∧ Hid (Bld w.heap.size w.heap.size (34 :: (s.data.toList.take k).flatMap qB) wr)) (fun i _ => s.size - (intOf i).toNat)
  case atStart => exact ⟨0, Nat.zero_le _, rfl, L1, hZ1, B1⟩
  case round =>
    obtain ⟨k, hk, rfl, HB, hZ, BD⟩ := hrel
    by_cases hlt : k < s.size
    · have hc := iv_get s k hlt
      have ht := take_bt s k hlt
      have hlen : (34 :: (s.data.toList.take k).flatMap qB).length ≤ 7000000 := by
        have := flat_len (s.data.toList.take k)
        have h2 : (s.data.toList.take k).length ≤ k := by simp; omega
        rw [List.length_cons]
        omega
      have HC := hid (HQ.out _ (bt s k) wr BD.out hlen (by omega))
      have hT : 34 :: (s.data.toList.take k).flatMap qB ++ qB (bt s k) = 34 :: (s.data.toList.take (k + 1)).flatMap qB := by rw [ht]; simp
      rw [hT] at HC
      generalize iv (bt s k) = x at *
      clear ht hT hlen HQ BD
      go_wp2_with fail
      refine HC.out.mono ?_
      rintro e w2 ⟨rfl, b2, l2⟩
      have B2 := hid b2
      have L2 := hid (HB.out.trans l2)
      have h2 : w.heap.size < w2.heap.size := Nat.lt_of_lt_of_le hZ l2.size
      clear b2 l2
      go_wp2_with fail
      exact ⟨⟨k + 1, by omega, by go_num, L2, h2, B2⟩, by simp [intOf]; omega⟩
    · obtain rfl : k = s.size := by omega
      have hT : s.data.toList.take s.size = s.data.toList := List.take_of_length_le (by simp)
      rw [hT] at BD
      have hlen : (34 :: s.data.toList.flatMap qB).length ≤ 7000000 := by
        have := flat_len s.data.toList
        have h2 : s.data.toList.length = s.size := by simp
        rw [List.length_cons]
        omega
      go_wp2_with fail
      refine (wbyte_any w.heap.size w.heap.size _ 34 wr BD.out (by omega) (by omega)).mono ?_
      rintro e w2 ⟨rfl, b2, l2, o2⟩
      have L2 := hid (HB.out.trans l2)
      have h2 : w.heap.size < w2.heap.size := Nat.lt_of_lt_of_le hZ l2.size
      have HS := hid (bstr_any w.heap.size w.heap.size _ w2 b2 (by omega))
      clear b2 l2 o2 hlen
      go_wp2_with fail
      refine HS.out.mono ?_
      rintro e w3 ⟨rfl, l3⟩
      have L3 := hid (L2.out.trans l3)
      clear l3
      go_wp2
      go_ret
      exact ⟨rfl, L3.out⟩
end Go.Proofs.YtlhlpamciafocaaGreatDoor.L
