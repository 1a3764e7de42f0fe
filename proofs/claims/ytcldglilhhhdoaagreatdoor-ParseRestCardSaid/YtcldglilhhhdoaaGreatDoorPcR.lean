import Derived.Test.YtcldglilhhhdoaaGreatDoorPcQ
import Derived.Test.YtcldglilhhhdoaaGreatDoorPcP
namespace Go.Proofs.YtcldglilhhhdoaaGreatDoor.L
open Go.RowKit Go.Shelf
set_option linter.unusedVariables false
set_option linter.unusedSimpArgs false
theorem scan_codes (s : ByteArray) : ∀ (n k : Nat), s.size - k = n → ∀ c a, (scanS s k).2 = some (c, a) → 111 ≤ c ∧ c ≤ 115 := by
  have TX : ∀ (f : Nat) (n k : Nat) (l : List UInt8), s.size - k = n → ∀ c a, txS s f k l = .bad c a → 111 ≤ c ∧ c ≤ 115 := by
    intro f n
    induction n using Nat.strongRecOn with
    | ind n ih =>
      intro k l hn c0 a0 h
      by_cases hlt : k < s.size
      · by_cases c : bt s k = 34
        · rw [txS_q s f k l hlt c] at h
          split at h
          · obtain ⟨rfl, _⟩ := TR.bad.inj h
            omega
          · exact TR.noConfusion h
        · by_cases d : bt s k = 92
          · by_cases e0 : (esc3 s k).2 = 0
            · rw [txS_e0 s f k l hlt d e0] at h
              obtain ⟨rfl, _⟩ := TR.bad.inj h
              omega
            · rw [txS_e s f k l hlt d e0] at h
              exact ih (s.size - (k + (esc3 s k).2)) (by omega) _ _ rfl c0 a0 h
          · by_cases e0 : iv (bt s k) < 32
            · rw [txS_low s f k l hlt c d e0] at h
              obtain ⟨rfl, _⟩ := TR.bad.inj h
              omega
            · rw [txS_go s f k l hlt c d e0] at h
              exact ih (s.size - (k + 1)) (by omega) _ _ rfl c0 a0 h
      · rw [txS_end s f k l hlt] at h
        obtain ⟨rfl, _⟩ := TR.bad.inj h
        omega
  have TK : ∀ k c a, tokS s k = .bad c a → 111 ≤ c ∧ c ≤ 115 := by
    intro k c a h
    unfold tokS at h
    split at h
    · cases hx : txS s k (k + 1) [] with
      | bad c' a' => rw [hx] at h; obtain ⟨rfl, _⟩ := RR.bad.inj h; exact TX k _ (k + 1) [] rfl _ _ hx
      | ok l e => rw [hx] at h; exact RR.noConfusion h
    · split at h
      · unfold numTok at h
        split at h
        · obtain ⟨rfl, _⟩ := RR.bad.inj h; omega
        · exact RR.noConfusion h
      · split at h
        · exact RR.noConfusion h
        · unfold markS at h
          split at h
          · exact RR.noConfusion h
          · split at h
            · exact RR.noConfusion h
            · obtain ⟨rfl, _⟩ := RR.bad.inj h; omega
  intro n
  induction n using Nat.strongRecOn with
  | ind n ih =>
    intro k hn c a h
    by_cases hl : gapS s k < s.size
    · cases ht : tokS s (gapS s k) with
      | bad c' a' =>
        rw [scan_bad hl ht] at h
        have := Option.some.inj h
        cases this
        exact TK _ _ _ ht
      | ok t =>
        rw [scan_go hl ht] at h
        have h1 := tok_in hl ht
        have h2 := gapS_ge s k
        exact ih (s.size - t.e) (by omega) t.e rfl c a h
    · rw [scan_fin hl] at h
      cases h
theorem scanT_codes {src : ByteArray} {c a : Nat} (h : (scanT src).2 = some (c, a)) : 110 ≤ c ∧ c ≤ 115 := by
  unfold scanT at h
  split at h
  · have := scan_codes src _ 0 rfl c a h
    omega
  · injection h with h
    injection h with h1 h2
    omega
theorem whole_err {T : List Tok} {n c : Nat} {x : Int} (h : wholeP T n = .error (c, x)) (hc : c = 120 ∨ c = 122 ∨ c = 124) : ∃ i, Ft T i c x ∧ ∀ T', Ag T T' (i + 1) → wholeP T' n = .error (c, x) := by
  unfold wholeP at h ⊢
  obtain ⟨h1, h2⟩ := loc_gr n .expr T ⟨0, 0, [], []⟩
  cases hg : gr T n .expr ⟨0, 0, [], []⟩ with
  | error q =>
    obtain ⟨c', x'⟩ := q
    rw [hg, bnd_bad] at h
    injection h with h
    injection h with e1 e2
    subst e1
    subst e2
    obtain ⟨i, _, h4, h5⟩ := h2 _ _ hg
    refine ⟨i, ?_, fun T' hT => ?_⟩
    · rcases h4 with ⟨h4, _⟩ | h4
      · omega
      · exact h4
    · have : gr T' n .expr ⟨0, 0, [], []⟩ = _ := h5 T' hT
      rw [this, bnd_bad]
  | ok q =>
    obtain ⟨k, s1⟩ := q
    rw [hg, bnd_ok] at h
    obtain ⟨_, h4⟩ := h1 _ _ hg
    by_cases h0 : (tk T s1.nx).kind = 0
    · rw [if_pos h0] at h
      split at h
      · injection h with h
        injection h with e1 e2
        omega
      · cases h
    · rw [if_neg h0] at h
      injection h with h
      have hf := ft_ref T s1
      rw [h] at hf
      refine ⟨s1.nx, hf, fun T' hT => ?_⟩
      have hk := hT s1.nx (by omega)
      have : gr T' n .expr ⟨0, 0, [], []⟩ = _ := h4 T' hT
      rw [this, bnd_ok, hk, if_neg h0, ref_eq hk, h]
theorem tk_out {T : List Tok} {i : Nat} (h : ¬ i < T.length) : (tk T i).kind = 0 := by
  unfold tk
  rw [List.getD_eq_getElem?_getD, List.getElem?_eq_none (by omega)]
  rfl
theorem tk_mem {T : List Tok} {i : Nat} (h : i < T.length) : tk T i ∈ T := by
  unfold tk
  rw [List.getD_eq_getElem?_getD, List.getElem?_eq_getElem h]
  exact List.getElem_mem h
/-- A token of the source that isn't its end. -/
theorem tk_spec {src : ByteArray} (h : (scanT src).2 = none) {i : Nat} (hk : (tk (scanT src).1 i).kind ≠ 0) : i + 1 < (scanT src).1.length ∧ (tk (scanT src).1 i).a < src.size ∧ tokS src (tk (scanT src).1 i).a = .ok (tk (scanT src).1 i) ∧ (tk (scanT src).1 i).a < (tk (scanT src).1 i).e ∧ (tk (scanT src).1 i).e ≤ src.size := by
  have hi : i < (scanT src).1.length := Classical.byContradiction fun hn => hk (tk_out hn)
  have h1 := (scan_fin2 h).2 i hi hk
  obtain ⟨_, l, hl, hs⟩ := scan_shape h
  have hm : tk (scanT src).1 i ∈ l := by
    have h2 := tk_mem hi
    rw [hl] at h2
    rcases List.mem_append.1 h2 with h3 | h3
    · rw [hl]; exact h3
    · rw [hl] at hk
      rw [List.mem_singleton] at h3
      rw [h3] at hk
      exact absurd rfl hk
  obtain ⟨h2, h3, h4⟩ := hs _ hm
  have h5 := tok_in h2 h3
  exact ⟨h1, h2, h3, h5.2.1, h5.2.2⟩
/-- A token that begins at the same place is the same token. -/
theorem tk_same {src : ByteArray} (h : (scanT src).2 = none) {i j : Nat} (hk : (tk (scanT src).1 i).kind ≠ 0) (hj : j < (scanT src).1.length) (ha : (tk (scanT src).1 j).a = (tk (scanT src).1 i).a) : tk (scanT src).1 j = tk (scanT src).1 i := by
  obtain ⟨_, h2, h3, _, _⟩ := tk_spec h hk
  by_cases h0 : (tk (scanT src).1 j).kind = 0
  · obtain ⟨_, l, hl, hs⟩ := scan_shape h
    have h4 := tk_mem hj
    have h6 : tk (scanT src).1 j ∈ l ∨ tk (scanT src).1 j = tokE src.size := by
      rw [hl] at h4
      rcases List.mem_append.1 h4 with h5 | h5
      · rw [hl]; exact Or.inl h5
      · rw [hl]; exact Or.inr (List.mem_singleton.1 h5)
    rcases h6 with h5 | h5
    · have h6 := hs _ h5
      rw [ha, h3] at h6
      exact (RR.ok.inj h6.2.1).symm
    · rw [h5] at ha
      have : src.size = (tk (scanT src).1 i).a := ha
      omega
  · obtain ⟨_, _, h5, _, _⟩ := tk_spec h h0
    rw [ha, h3] at h5
    exact (RR.ok.inj h5).symm
theorem rest_pure {src : ByteArray} {c : Nat} {x : Int} (h : parR src = .error (c, x)) (hs : (scanT src).2 = none) (hc : c = 120 ∨ c = 122 ∨ c = 124) : ∃ i, i < (scanT src).1.length ∧ x = ((tk (scanT src).1 i).a : Int) ∧ (tk (scanT src).1 i).a < (tk (scanT src).1 i).e ∧ (tk (scanT src).1 i).e ≤ src.size ∧ (∀ j, j < (scanT src).1.length → (tk (scanT src).1 j).a = (tk (scanT src).1 i).a → tk (scanT src).1 j = tk (scanT src).1 i) ∧
    ∀ other, Pre src other (tk (scanT src).1 i).e → bt other (tk (scanT src).1 i).e = 10 → (scanT other).2 = none → parR other = .error (c, x) := by
  unfold parR at h
  rw [hs] at h
  simp only at h
  have hw : wholeP (scanT src).1 16392 = .error (c, x) := by
    cases hw : wholeP (scanT src).1 16392 with
    | ok q => rw [hw] at h; cases h
    | error q => rw [hw] at h; simp only [Except.error.injEq] at h; rw [h]
  obtain ⟨i, hf, hl⟩ := whole_err hw hc
  have hk : (tk (scanT src).1 i).kind ≠ 0 := by
    rcases hf.2 with h1 | h1
    · omega
    · exact h1.2
  obtain ⟨h1, h2, h3, h4, h5⟩ := tk_spec hs hk
  refine ⟨i, by omega, hf.1, h4, h5, fun j hj ha => tk_same hs hk hj ha, fun other hp hb ho => ?_⟩
  have e1 : scanT src = scanS src 0 := by
    unfold scanT
    exact if_pos (scan_shape hs).1
  have e2 : scanT other = scanS other 0 := by
    unfold scanT
    exact if_pos (scan_shape ho).1
  have hag : Ag (scanT src).1 (scanT other).1 (i + 1) := fun j hj => by
    rw [e1] at hs h1 hp hb ⊢
    rw [e2] at ho ⊢
    refine scan_pre hp ⟨by rw [hb]; decide, fun a => by rw [hb]; unfold mk2; simp⟩ _ 0 i rfl (Nat.zero_le _) hs h1 (Nat.le_refl _) ho j (by omega)
  unfold parR
  rw [ho]
  simp only
  rw [hl _ hag]
end Go.Proofs.YtcldglilhhhdoaaGreatDoor.L
