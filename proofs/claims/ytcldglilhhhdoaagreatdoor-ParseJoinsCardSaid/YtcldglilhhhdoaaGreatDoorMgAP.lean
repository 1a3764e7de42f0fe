import Derived.Test.YtcldglilhhhdoaaGreatDoorPcE
import Derived.Test.YtcldglilhhhdoaaGreatDoorPbN
namespace Go.Proofs.YtcldglilhhhdoaaGreatDoor.L
open Go.RowKit Go.Shelf
set_option linter.unusedVariables false
/-- What s has from k to e stands in w from d on; behind it the end or a blank. -/
structure Em2 (s w : ByteArray) (k e d : Nat) : Prop where
  le : k ≤ e
  ls : e ≤ s.size
  sz : d + (e - k) ≤ w.size
  same : ∀ j, j < e - k → bt w (d + j) = bt s (k + j)
  stop : bt w (d + (e - k)) = bt s e ∨ (inwB (iv (bt w (d + (e - k)))) = false ∧ ∀ a, mk2 a (bt w (d + (e - k))) = false)
theorem Em2.at {s w : ByteArray} {k e d : Nat} (E : Em2 s w k e d) {i : Nat} (h1 : k ≤ i) (h2 : i < e) : bt w (d + (i - k)) = bt s i := by
  rw [E.same (i - k) (by omega), show k + (i - k) = i by omega]
theorem Em2.text {s w : ByteArray} {k e d : Nat} (E : Em2 s w k e d) : w.extract d (d + (e - k)) = s.extract k e := by
  have h1 := E.le
  have h2 := E.ls
  have h3 := E.sz
  apply list_eq_of_bt
  · simp; omega
  · intro j hj
    have hj' : j < e - k := by simp at hj; omega
    rw [bt_ext w d (d + (e - k)) j (by omega) h3, bt_ext s k e j (by omega) h2]
    exact E.same j hj'
theorem em2_beh {s w : ByteArray} {k e d : Nat} (E : Em2 s w k e d) : ∀ (n i : Nat), e - i = n → k ≤ i → i ≤ e → behW s i = e → behW w (d + (i - k)) = d + (e - k) := by
  intro n
  induction n using Nat.strongRecOn with
  | ind n ih =>
    intro i hn h1 h2 h
    have h3 := E.sz
    have h4 := E.ls
    by_cases hl : i < e
    · have hs : i < s.size := by omega
      cases c : inwB (iv (bt s i))
      · rw [behW_no s i hs c] at h
        omega
      · rw [behW_go s i hs c] at h
        rw [behW_go w (d + (i - k)) (by omega) (by rw [E.at h1 hl]; exact c), show d + (i - k) + 1 = d + (i + 1 - k) by omega]
        exact ih (e - (i + 1)) (by omega) (i + 1) rfl (by omega) (by omega) h
    · have e1 : i = e := by omega
      subst e1
      by_cases hw : d + (i - k) < w.size
      · refine behW_no w _ hw ?_
        rcases E.stop with h0 | h0
        · rw [h0]
          by_cases hs : i < s.size
          · cases c : inwB (iv (bt s i))
            · rfl
            · have h5 := behW_go s i hs c
              have h6 := (behW_in s _ (i + 1) rfl).1
              omega
          · rw [bt_out s i (by omega)]
            decide
        · exact h0.1
      · exact behW_end w _ hw
theorem esc3_em2 {s w : ByteArray} {k e d : Nat} (E : Em2 s w k e d) {i : Nat} (h1 : k ≤ i) (h0 : (esc3 s i).2 ≠ 0) (h2 : i + (esc3 s i).2 ≤ e) : esc3 w (d + (i - k)) = esc3 s i := by
  have hin := esc_in h0
  have e1 : bt w (d + (i - k) + 1) = bt s (i + 1) := by rw [show d + (i - k) + 1 = d + (i + 1 - k) by omega]; exact E.at (by omega) (by omega)
  rcases hin.2 with h2' | h4
  · unfold esc3 at h2' ⊢
    rw [e1]
    unfold escV at h2' ⊢
    by_cases g1 : bt s (i + 1) = 34
    · simp [g1]
    by_cases g2 : bt s (i + 1) = 92
    · simp [g2]
    by_cases g3 : bt s (i + 1) = 110
    · simp [g3]
    by_cases g4 : bt s (i + 1) = 116
    · simp [g4]
    by_cases g5 : bt s (i + 1) = 114
    · simp [g5]
    rw [if_neg g1, if_neg g2, if_neg g3, if_neg g4, if_neg g5] at h2'
    split at h2' <;> simp at h2'
  · have e2 : bt w (d + (i - k) + 2) = bt s (i + 2) := by rw [show d + (i - k) + 2 = d + (i + 2 - k) by omega]; exact E.at (by omega) (by omega)
    have e3 : bt w (d + (i - k) + 3) = bt s (i + 3) := by rw [show d + (i - k) + 3 = d + (i + 3 - k) by omega]; exact E.at (by omega) (by omega)
    unfold esc3
    rw [e1, e2, e3]
theorem em2_tx {s w : ByteArray} {k e d : Nat} (E : Em2 s w k e d) (f g : Nat) : ∀ (n i : Nat) (l l' : List UInt8), e - i = n → k ≤ i → txS s f i l = .ok l' e → txS w g (d + (i - k)) l = .ok l' (d + (e - k)) := by
  intro n
  induction n using Nat.strongRecOn with
  | ind n ih =>
    intro i l l' hn h1 h
    have h3 := E.sz
    have h4 := E.ls
    by_cases hlt : i < s.size
    · have hie := (txS_in s f _ i l rfl (by omega) l' e h).1
      have es := E.at h1 hie
      have hw : d + (i - k) < w.size := by omega
      by_cases c : bt s i = 34
      · rw [txS_q s f i l hlt c] at h
        rw [txS_q w g _ l hw (by rw [es]; exact c)]
        split at h
        · exact TR.noConfusion h
        · rename_i hll
          obtain ⟨e1, e2⟩ := TR.ok.inj h
          rw [if_neg hll, e1, show d + (i - k) + 1 = d + (e - k) by omega]
      · by_cases dd : bt s i = 92
        · by_cases e0 : (esc3 s i).2 = 0
          · rw [txS_e0 s f i l hlt dd e0] at h
            exact TR.noConfusion h
          · rw [txS_e s f i l hlt dd e0] at h
            have hg := esc_in e0
            have hie2 := (txS_in s f _ _ _ rfl hg.1 l' e h).1
            have hx := esc3_em2 E h1 e0 (by omega)
            rw [txS_e w g _ l hw (by rw [es]; exact dd) (by rw [hx]; exact e0), hx, show d + (i - k) + (esc3 s i).2 = d + (i + (esc3 s i).2 - k) by omega]
            exact ih (e - (i + (esc3 s i).2)) (by omega) _ _ _ rfl (by omega) h
        · by_cases e0 : iv (bt s i) < 32
          · rw [txS_low s f i l hlt c dd e0] at h
            exact TR.noConfusion h
          · rw [txS_go s f i l hlt c dd e0] at h
            rw [txS_go w g _ l hw (by rw [es]; exact c) (by rw [es]; exact dd) (by rw [es]; exact e0), es, show d + (i - k) + 1 = d + (i + 1 - k) by omega]
            exact ih (e - (i + 1)) (by omega) _ _ _ rfl (by omega) h
    · rw [txS_end s f i l hlt] at h
      exact TR.noConfusion h
/-- A token read where it stands is read in another source. -/
theorem tok_em2 {s w : ByteArray} {k d : Nat} {t : Tok} (hk : k < s.size) (h : tokS s k = .ok t) (E : Em2 s w k t.e d) : tokS w d = .ok ⟨t.kind, t.text, t.num, d, d + (t.e - k)⟩ := by
  have hin := tok_in hk h
  have h3 := E.sz
  have e0 : bt w d = bt s k := by have := E.at (Nat.le_refl k) hin.2.1; rwa [Nat.sub_self, Nat.add_zero] at this
  have htx := E.text
  unfold tokS at h ⊢
  rw [e0]
  by_cases c34 : bt s k = 34
  · rw [if_pos c34] at h ⊢
    cases hx : txS s k (k + 1) [] with
    | bad c a => rw [hx] at h; exact RR.noConfusion h
    | ok l e =>
      rw [hx] at h
      have ht := RR.ok.inj h
      subst ht
      have := em2_tx E k d _ (k + 1) [] l rfl (by omega) hx
      rw [show d + (k + 1 - k) = d + 1 by omega] at this
      rw [this]
      rfl
  · rw [if_neg c34] at h ⊢
    by_cases cd : digB (iv (bt s k)) = true ∨ (bt s k = 45 ∧ digB (iv (bt s (k + 1))) = true)
    · rw [if_pos cd] at h
      have hnum : numTok s k = .ok t := h
      unfold numTok at h
      have hlt1 : k + 1 ≤ behW s (k + 1) := (behW_in s _ (k + 1) rfl).1
      cases hn : numS (s.extract k (behW s (k + 1))) with
      | none => rw [hn] at h; exact RR.noConfusion h
      | some n =>
        rw [hn] at h
        have ht := RR.ok.inj h
        subst ht
        have hbw := em2_beh E _ (k + 1) rfl (by omega) hlt1 rfl
        rw [show d + (k + 1 - k) = d + 1 by omega] at hbw
        have cd' : digB (iv (bt s k)) = true ∨ (bt s k = 45 ∧ digB (iv (bt w (d + 1))) = true) := by
          rcases cd with cd | ⟨c1, c2⟩
          · exact Or.inl cd
          · refine Or.inr ⟨c1, ?_⟩
            have hlt : k + 1 < s.size := by
              apply Classical.byContradiction
              intro nn
              rw [bt_out s (k + 1) (by omega)] at c2
              exact absurd c2 (by decide)
            have hgt : k + 1 < behW s (k + 1) := by
              have e1 : behW s (k + 1) = behW s (k + 1 + 1) := behW_go s (k + 1) hlt (dig_inw c2)
              have := (behW_in s _ (k + 1 + 1) rfl).1
              omega
            have := E.at (i := k + 1) (by omega) hgt
            rw [show d + (k + 1 - k) = d + 1 by omega] at this
            rw [this]
            exact c2
        rw [if_pos cd']
        unfold numTok
        simp only at htx
        rw [hbw, htx, hn]
    · rw [if_neg cd] at h
      by_cases ci : inwB (iv (bt s k)) = true
      · rw [if_pos ci] at h
        have ht := RR.ok.inj h
        subst ht
        have hbw := em2_beh E _ k rfl (Nat.le_refl _) (by have := (behW_in s _ k rfl).1; exact this) rfl
        rw [Nat.sub_self, Nat.add_zero] at hbw
        have cd' : ¬ (digB (iv (bt s k)) = true ∨ (bt s k = 45 ∧ digB (iv (bt w (d + 1))) = true)) := by
          rintro (c1 | ⟨c1, c2⟩)
          · exact cd (Or.inl c1)
          · rw [c1] at ci; exact absurd ci (by decide)
        rw [if_neg cd', if_pos ci, hbw]
        simp only at htx
        rw [htx]
      · rw [if_neg ci] at h
        have c45 : bt s k ≠ 45 := by
          intro e
          unfold markS at h
          rw [e] at h
          rw [if_neg (by unfold mk2; simp), if_neg (by decide)] at h
          exact RR.noConfusion h
        rw [if_neg (by rintro (c1 | ⟨c1, c2⟩); exact cd (Or.inl c1); exact c45 c1), if_neg ci]
        unfold markS at h ⊢
        rw [e0]
        by_cases m : mk2 (bt s k) (bt s (k + 1)) = true
        · rw [if_pos m] at h
          have ht := RR.ok.inj h
          subst ht
          have e1 := E.at (i := k + 1) (by omega) (by show k + 1 < k + 2; omega)
          rw [show d + (k + 1 - k) = d + 1 by omega] at e1
          simp only at htx
          rw [show d + (k + 2 - k) = d + 2 by omega] at htx ⊢
          rw [e1, if_pos m, htx]
        · rw [if_neg m] at h
          by_cases m1 : mk1 (bt s k) = true
          · rw [if_pos m1] at h
            have ht := RR.ok.inj h
            subst ht
            have hst := E.stop
            simp only at htx hst
            rw [show d + (k + 1 - k) = d + 1 by omega] at htx hst ⊢
            have m' : ¬ mk2 (bt s k) (bt w (d + 1)) = true := by
              rcases hst with h0 | h0
              · rw [h0]; exact m
              · rw [h0.2]; decide
            rw [if_neg m', if_pos m1, htx]
          · rw [if_neg m1] at h
            exact RR.noConfusion h
end Go.Proofs.YtcldglilhhhdoaaGreatDoor.L
namespace Go.Proofs.YtcldglilhhhdoaaGreatDoor.L
open Go.RowKit
set_option linter.unusedVariables false
set_option linter.unusedSimpArgs false
section
variable {one : List Tok → PS → PRes Int}
end
end Go.Proofs.YtcldglilhhhdoaaGreatDoor.L
namespace Go.Proofs.YtcldglilhhhdoaaGreatDoor.L
open Go.RowKit Go.Shelf
set_option linter.unusedVariables false
set_option linter.unusedSimpArgs false
theorem scan_codes (s : ByteArray) : ∀ (n k : Nat), s.size - k = n → ∀ c a, (scanS s k).2 = some (c, a) → 111 ≤ c ∧ c ≤ 115 := by
  have TX : ∀ (f : Nat) (n k : Nat) (l : List UInt8), s.size - k = n → ∀ c a, txS s f k l = .bad c a → 111 ≤ c ∧ c ≤ 115 := by
    intro f n
    induction n using Nat.strongRecOn with
    | ind n ih =>
      intro k l hn c0 a0 h
      by_cases hlt : k < s.size
      · by_cases c : bt s k = 34
        · rw [txS_q s f k l hlt c] at h
          split at h
          · obtain ⟨rfl, _⟩ := TR.bad.inj h
            omega
          · exact TR.noConfusion h
        · by_cases d : bt s k = 92
          · by_cases e0 : (esc3 s k).2 = 0
            · rw [txS_e0 s f k l hlt d e0] at h
              obtain ⟨rfl, _⟩ := TR.bad.inj h
              omega
            · rw [txS_e s f k l hlt d e0] at h
              exact ih (s.size - (k + (esc3 s k).2)) (by omega) _ _ rfl c0 a0 h
          · by_cases e0 : iv (bt s k) < 32
            · rw [txS_low s f k l hlt c d e0] at h
              obtain ⟨rfl, _⟩ := TR.bad.inj h
              omega
            · rw [txS_go s f k l hlt c d e0] at h
              exact ih (s.size - (k + 1)) (by omega) _ _ rfl c0 a0 h
      · rw [txS_end s f k l hlt] at h
        obtain ⟨rfl, _⟩ := TR.bad.inj h
        omega
  have TK : ∀ k c a, tokS s k = .bad c a → 111 ≤ c ∧ c ≤ 115 := by
    intro k c a h
    unfold tokS at h
    split at h
    · cases hx : txS s k (k + 1) [] with
      | bad c' a' => rw [hx] at h; obtain ⟨rfl, _⟩ := RR.bad.inj h; exact TX k _ (k + 1) [] rfl _ _ hx
      | ok l e => rw [hx] at h; exact RR.noConfusion h
    · split at h
      · unfold numTok at h
        split at h
        · obtain ⟨rfl, _⟩ := RR.bad.inj h; omega
        · exact RR.noConfusion h
      · split at h
        · exact RR.noConfusion h
        · unfold markS at h
          split at h
          · exact RR.noConfusion h
          · split at h
            · exact RR.noConfusion h
            · obtain ⟨rfl, _⟩ := RR.bad.inj h; omega
  intro n
  induction n using Nat.strongRecOn with
  | ind n ih =>
    intro k hn c a h
    by_cases hl : gapS s k < s.size
    · cases ht : tokS s (gapS s k) with
      | bad c' a' =>
        rw [scan_bad hl ht] at h
        have := Option.some.inj h
        cases this
        exact TK _ _ _ ht
      | ok t =>
        rw [scan_go hl ht] at h
        have h1 := tok_in hl ht
        have h2 := gapS_ge s k
        exact ih (s.size - t.e) (by omega) t.e rfl c a h
    · rw [scan_fin hl] at h
      cases h
theorem scanT_codes {src : ByteArray} {c a : Nat} (h : (scanT src).2 = some (c, a)) : 110 ≤ c ∧ c ≤ 115 := by
  unfold scanT at h
  split at h
  · have := scan_codes src _ 0 rfl c a h
    omega
  · injection h with h
    injection h with h1 h2
    omega
theorem tk_out {T : List Tok} {i : Nat} (h : ¬ i < T.length) : (tk T i).kind = 0 := by
  unfold tk
  rw [List.getD_eq_getElem?_getD, List.getElem?_eq_none (by omega)]
  rfl
theorem tk_mem {T : List Tok} {i : Nat} (h : i < T.length) : tk T i ∈ T := by
  unfold tk
  rw [List.getD_eq_getElem?_getD, List.getElem?_eq_getElem h]
  exact List.getElem_mem h
/-- A token of the source that isn't its end. -/
theorem tk_spec {src : ByteArray} (h : (scanT src).2 = none) {i : Nat} (hk : (tk (scanT src).1 i).kind ≠ 0) : i + 1 < (scanT src).1.length ∧ (tk (scanT src).1 i).a < src.size ∧ tokS src (tk (scanT src).1 i).a = .ok (tk (scanT src).1 i) ∧ (tk (scanT src).1 i).a < (tk (scanT src).1 i).e ∧ (tk (scanT src).1 i).e ≤ src.size := by
  have hi : i < (scanT src).1.length := Classical.byContradiction fun hn => hk (tk_out hn)
  have h1 := (scan_fin2 h).2 i hi hk
  obtain ⟨_, l, hl, hs⟩ := scan_shape h
  have hm : tk (scanT src).1 i ∈ l := by
    have h2 := tk_mem hi
    rw [hl] at h2
    rcases List.mem_append.1 h2 with h3 | h3
    · rw [hl]; exact h3
    · rw [hl] at hk
      rw [List.mem_singleton] at h3
      rw [h3] at hk
      exact absurd rfl hk
  obtain ⟨h2, h3, h4⟩ := hs _ hm
  have h5 := tok_in h2 h3
  exact ⟨h1, h2, h3, h5.2.1, h5.2.2⟩
end Go.Proofs.YtcldglilhhhdoaaGreatDoor.L
namespace Go.Proofs.YtcldglilhhhdoaaGreatDoor.L
open Go.RowKit
set_option linter.unusedVariables false
set_option linter.unusedSimpArgs false
/-- No fault without a number. -/
def Nz {α : Type} (r : PRes α) : Prop := ∀ c x, r = .error (c, x) → c ≠ 0
theorem nz_ok {α : Type} (q : α × PS) : Nz (.ok q : PRes α) := fun c x h => by cases h
theorem nz_err {α : Type} {c : Nat} {x : Int} (h : c ≠ 0) : Nz (.error (c, x) : PRes α) := fun c' x' e => by
  injection e with e
  injection e with e1 e2
  rw [← e1]; exact h
theorem nz_put (s : PS) (p : Pt) (x : Int) : Nz (putP s p x) := nz_ok _
theorem nz_ref {α : Type} (T : List Tok) (s : PS) : Nz (.error (rfE T s) : PRes α) := by
  refine nz_err (c := (rfE T s).1) (x := (rfE T s).2) ?_
  unfold rfE
  simp only
  split <;> decide
theorem nz_bnd {α β : Type} {p : PRes α} {f : α → PS → PRes β} (hp : Nz p) (hf : ∀ a s1, p = .ok (a, s1) → Nz (f a s1)) : Nz (bnd p f) := by
  cases p with
  | error q =>
    obtain ⟨c, x⟩ := q
    rw [bnd_bad]
    exact nz_err (hp c x rfl)
  | ok q =>
    obtain ⟨a, s1⟩ := q
    rw [bnd_ok]
    exact hf a s1 rfl
theorem nz_ite {α : Type} {c : Prop} [Decidable c] {p q : PRes α} (hp : c → Nz p) (hq : ¬ c → Nz q) : Nz (if c then p else q) := by
  by_cases h : c
  · rw [if_pos h]; exact hp h
  · rw [if_neg h]; exact hq h
theorem open_kind {T : List Tok} {s s' : PS} {m : List UInt8} {u : Unit} (h : openP T s m = .ok (u, s')) : (tk T s.nx).kind ≠ 0 := by
  unfold openP at h
  split at h
  · rename_i h1
    exact isM_kind h1
  · cases h
theorem nz_mark (T : List Tok) (s : PS) (m : List UInt8) : Nz (markP T s m) := nz_ite (fun _ => nz_ok _) (fun _ => nz_ref T s)
theorem nz_text (T : List Tok) (s : PS) : Nz (textP T s) := nz_ite (fun _ => nz_ok _) (fun _ => nz_ref T s)
theorem nz_open (T : List Tok) (s : PS) (m : List UInt8) : Nz (openP T s m) := nz_ite (fun _ => nz_ite (fun _ => nz_err (by decide)) (fun _ => nz_ok _)) (fun _ => nz_ref T s)
theorem nz_field (T : List Tok) (s : PS) : Nz (fieldP T s) := nz_ite (fun _ => nz_ref T s) (fun _ => nz_ok _)
theorem nz_el (T : List Tok) (s : PS) : Nz (elP T s) := nz_ite (fun _ => nz_put _ _ _) (fun _ => nz_put _ _ _)
theorem nz_mem (T : List Tok) (s : PS) (n : Nat) : Nz (memP T s n) := nz_ite (fun _ => nz_ite (fun _ => nz_err (by decide)) (fun _ => nz_el T s)) (fun _ => nz_ref T s)
theorem nz_mems (T : List Tok) : ∀ (n : Nat) (ks : List Int) (s : PS), Nz (memsP T n ks s)
  | 0, ks, s => nz_ok _
  | n + 1, ks, s => nz_ite (fun _ => nz_bnd (nz_mem _ _ _) fun k s1 _ => nz_mems T n _ s1) (fun _ => nz_ok _)
theorem nz_set (T : List Tok) (s : PS) : Nz (setP T s) :=
  nz_bnd (nz_mark _ _ _) fun _ s1 _ => nz_bnd (nz_ite (fun _ => nz_ok _) (fun _ => nz_bnd (nz_mem _ _ _) fun k s2 _ => nz_ok _)) fun ks s2 _ => nz_bnd (nz_mems _ _ _ _) fun ks s3 _ => nz_bnd (nz_mark _ _ _) fun _ s4 _ => nz_put _ _ _
theorem nz_named (T : List Tok) (s : PS) : Nz (namedP T s) := nz_bnd (nz_mark _ _ _) fun _ s1 _ => nz_bnd (nz_text _ _) fun t s2 _ => nz_bnd (nz_mark _ _ _) fun _ s3 _ => nz_ok _
theorem nz_who (T : List Tok) (s : PS) (side : Int) : Nz (whoP T s side) :=
  nz_ite (fun _ => nz_bnd (nz_text _ _) fun t s1 _ => nz_bnd (nz_mark _ _ _) fun _ s2 _ => nz_put _ _ _) (fun _ => nz_bnd (nz_mark _ _ _) fun _ s1 _ => nz_bnd (nz_field _ _) fun k s2 _ => nz_ite (fun _ => nz_bnd (nz_named _ _) fun t s3 _ => nz_put _ _ _) (fun _ => nz_put _ _ _))
theorem nz_tol (T : List Tok) (s : PS) : Nz (tolP T s) := nz_bnd (nz_named _ _) fun t s1 _ => nz_put _ _ _
section
variable {T : List Tok} {one : PS → PRes Int} {lo : Nat}
theorem nz_rows (h : ∀ s, lo ≤ s.nx → Nz (one s)) (hg : Gone one) (m : List UInt8) : ∀ (n : Nat) (ks : List Int) (s : PS), lo ≤ s.nx → Nz (rowsP T one m n ks s)
  | 0, ks, s, hl => nz_ok _
  | n + 1, ks, s, hl => nz_ite (fun _ => nz_bnd (h _ (Nat.le_trans hl (Nat.le_succ _))) fun k s1 e => nz_rows h hg m n _ s1 (by have := (hg _ _ _ e).nx; simp only [adv] at this; omega)) (fun _ => nz_ok _)
theorem nz_row (h : ∀ s, lo ≤ s.nx → Nz (one s)) (hg : Gone one) (kd : Int) (m : List UInt8) (s : PS) (hl : lo ≤ s.nx) : Nz (rowP T one kd m s) :=
  nz_bnd (h s hl) fun k0 s1 e => nz_bnd (nz_rows h hg m _ _ s1 (by have := (hg _ _ _ e).nx; omega)) fun ks s2 _ => nz_ite (fun _ => nz_ok _) (fun _ => nz_put _ _ _)
theorem nz_with {α : Type} {inner : PS → PRes α} (s : PS) (h : ∀ s1, s.nx + 1 ≤ s1.nx → (tk T s.nx).kind ≠ 0 → Nz (inner s1)) : Nz (withP T inner s) :=
  nz_bnd (nz_open _ _ _) fun _ s1 e => nz_bnd (h s1 (by have := (gn_open e).nx; omega) (open_kind e)) fun k s2 _ => nz_bnd (nz_mark _ _ _) fun _ s3 _ => nz_ok _
theorem nz_sel (s : PS) (h : ∀ s1, s.nx + 1 ≤ s1.nx → Nz (one s1)) (kd : Int) : Nz (selP T one kd s) :=
  nz_bnd (nz_with (adv s) fun s1 h1 _ => nz_bnd (nz_text _ _) fun t s2 e2 => nz_bnd (nz_mark _ _ _) fun _ s3 e3 => nz_bnd (h s3 (by have h4 := (gn_text e2).nx; have h5 := (gn_mark e3).nx; simp only [adv] at h1; omega)) fun k s4 _ => nz_ok _) fun q s5 _ => nz_put _ _ _
theorem nz_neg (s : PS) (h : ∀ s1, s.nx + 1 ≤ s1.nx → (tk T s.nx).kind ≠ 0 → Nz (one s1)) : Nz (negP T one s) :=
  nz_bnd (nz_open _ _ _) fun _ s1 e => nz_bnd (h s1 (by have := (gn_open e).nx; omega) (open_kind e)) fun k s2 _ => nz_put _ _ _
theorem nz_comp (s : PS) (hg : Gone one) (h : ∀ s1, s.nx ≤ s1.nx → Nz (one s1)) : Nz (compP T one s) := by
  refine nz_bnd (h s (Nat.le_refl _)) fun l s1 e => ?_
  cases betO (tk T s1.nx) with
  | none => exact nz_ref T s1
  | some q => exact nz_bnd (h _ (by have := (hg _ _ _ e).nx; simp only [adv]; omega)) fun r s2 _ => nz_put _ _ _
end
theorem nz_gr {T : List Tok} : ∀ (n : Nat) (g : Gr) (s : PS), 4 * (T.length - s.nx) + lvl g < n → Nz (gr T n g s)
  | 0, g, s, h => absurd h (Nat.not_lt_zero _)
  | n + 1, .expr, s, h => nz_row (lo := s.nx) (fun s1 h1 => nz_gr n .conj s1 (by simp only [lvl] at *; omega)) (gn_gr n .conj) 5 _ s (Nat.le_refl _)
  | n + 1, .conj, s, h => nz_row (lo := s.nx) (fun s1 h1 => nz_gr n .unit s1 (by simp only [lvl] at *; omega)) (gn_gr n .unit) 4 _ s (Nat.le_refl _)
  | n + 1, .unit, s, h => by
    have hb : (tk T s.nx).kind ≠ 0 → s.nx < T.length := fun hk => Classical.byContradiction fun hn => hk (tk_out hn)
    have ex : ∀ s1, s.nx + 1 ≤ s1.nx → (tk T s.nx).kind ≠ 0 → Nz (gr T n .expr s1) := fun s1 h1 hk => nz_gr n .expr s1 (by have := hb hk; simp only [lvl] at *; omega)
    have te : ∀ s1, s.nx ≤ s1.nx → Nz (gr T n .term s1) := fun s1 h1 => nz_gr n .term s1 (by simp only [lvl] at *; omega)
    show Nz (unitP T (gr T n .expr) (gr T n .unit) (gr T n .term) s)
    refine nz_ite (fun _ => nz_neg s fun s1 h1 hk => nz_gr n .unit s1 (by have := hb hk; simp only [lvl] at *; omega)) (fun _ => nz_ite (fun _ => nz_with s ex) (fun _ => ?_))
    refine nz_ite (fun h3 => ?_) (fun _ => nz_comp s (gn_gr n .term) te)
    have hk : (tk T s.nx).kind ≠ 0 := by rw [h3]; decide
    exact nz_ite (fun _ => nz_put _ _ _) (fun _ => nz_ite (fun _ => nz_put _ _ _) (fun _ => nz_ite (fun _ => nz_sel s (fun s1 h1 => ex s1 h1 hk) 8) (fun _ => nz_ite (fun _ => nz_sel s (fun s1 h1 => ex s1 h1 hk) 9) (fun _ => nz_ite (fun _ => nz_tol _ _) (fun _ => nz_comp s (gn_gr n .term) te)))))
  | n + 1, .term, s, h => by
    have hb : (tk T s.nx).kind ≠ 0 → s.nx < T.length := fun hk => Classical.byContradiction fun hn => hk (tk_out hn)
    show Nz (termP T (gr T n .expr) (gr T n .term) s)
    refine nz_ite (fun _ => nz_el _ _) (fun _ => nz_ite (fun _ => nz_set _ _) (fun _ => nz_ite (fun h3 => ?_) (fun _ => nz_ref _ _)))
    have hk : (tk T s.nx).kind ≠ 0 := by rw [h3]; decide
    have hl := hb hk
    have ex : ∀ s1, s.nx + 1 ≤ s1.nx → Nz (gr T n .expr s1) := fun s1 h1 => nz_gr n .expr s1 (by simp only [lvl] at *; omega)
    have te : ∀ s1, s.nx + 1 ≤ s1.nx → Nz (gr T n .term s1) := fun s1 h1 => nz_gr n .term s1 (by simp only [lvl] at *; omega)
    exact nz_ite (fun _ => nz_who _ _ _) (fun _ => nz_ite (fun _ => nz_who _ _ _) (fun _ => nz_ite (fun _ => nz_who _ _ _) (fun _ => nz_ite (fun _ => nz_bnd (nz_with (adv s) fun s1 h1 _ => te s1 (by simp only [adv] at h1; omega)) fun k s1 _ => nz_put _ _ _) (fun _ => nz_ite (fun _ => nz_sel s ex 20) (fun _ => nz_ref _ _)))))
theorem whole_code {T : List Tok} {c : Nat} {x : Int} (h : wholeP T 16392 = .error (c, x)) (h0 : 0 < T.length) (hl : T.length ≤ 4097) : c ≠ 0 := by
  have : Nz (wholeP T 16392) := nz_bnd (nz_gr _ _ _ (by simp only [lvl]; omega)) fun k s _ => nz_ite (fun _ => nz_ite (fun _ => nz_err (by decide)) (fun _ => nz_ok _)) (fun _ => nz_ref _ _)
  exact this c x h
end Go.Proofs.YtcldglilhhhdoaaGreatDoor.L
