import Derived.Test.YtcldglilhhhdoaaGreatDoorPeA
namespace Go.Proofs.YtcldglilhhhdoaaGreatDoor.L
open Go.RowKit Go.Shelf
set_option linter.unusedVariables false
set_option linter.unusedSimpArgs false
/-- What may stand between two tokens. -/
structure Gp (G : ByteArray) : Prop where
  pos : 0 < G.size
  word : inwB (iv (bt G 0)) = false
  mark : ∀ a, mk2 a (bt G 0) = false
  skip : ∀ (U : ByteArray) (p : Nat), p + G.size ≤ U.size → (∀ j, j < G.size → bt U (p + j) = bt G j) → gapS U p = gapS U (p + G.size)
def gpn (n : Nat) : ByteArray := if n % 5 = 0 then ⟨#[32]⟩ else if n % 5 = 1 then ⟨#[10]⟩ else if n % 5 = 2 then ⟨#[32, 35, 32, 116, 114, 117, 101, 32, 41, 32, 125, 32, 34, 32, 38, 38, 32, 10]⟩ else if n % 5 = 3 then ⟨#[9, 13, 32]⟩ else ⟨#[35, 10]⟩
theorem gap_one {c : UInt8} (hc : blkB (iv c) = true) (U : ByteArray) (p : Nat) (hz : p < U.size) (hb : bt U p = c) : gapS U p = gapS U (p + 1) := gapS_blk U p hz (by rw [hb]; exact hc)
theorem gp_0 : Gp ⟨#[32]⟩ := ⟨by decide, by decide, fun a => by show mk2 a 32 = false; unfold mk2; simp, fun U p hz hb => gap_one (c := 32) (by decide) U p (by have : p + 1 ≤ U.size := hz; omega) (hb 0 (by decide))⟩
theorem gp_1 : Gp ⟨#[10]⟩ := ⟨by decide, by decide, fun a => by show mk2 a 10 = false; unfold mk2; simp, fun U p hz hb => gap_one (c := 10) (by decide) U p (by have : p + 1 ≤ U.size := hz; omega) (hb 0 (by decide))⟩
theorem gp_3 : Gp ⟨#[9, 13, 32]⟩ := ⟨by decide, by decide, fun a => by show mk2 a 9 = false; unfold mk2; simp, fun U p hz hb => by
  have hz : p + 3 ≤ U.size := hz
  rw [gap_one (c := 9) (by decide) U p (by omega) (hb 0 (by decide)), gap_one (c := 13) (by decide) U (p + 1) (by omega) (hb 1 (by decide)), gap_one (c := 32) (by decide) U (p + 1 + 1) (by omega) (hb 2 (by decide))]
  rfl⟩
theorem gp_4 : Gp ⟨#[35, 10]⟩ := ⟨by decide, by decide, fun a => by show mk2 a 35 = false; unfold mk2; simp, fun U p hz hb => by
  have hz : p + 2 ≤ U.size := hz
  have h0 : bt U p = 35 := hb 0 (by decide)
  have h1 : bt U (p + 1) = 10 := hb 1 (by decide)
  rw [gapS_rem U p (by omega) h0, nlAt_go U p (by omega) (by rw [h0]; decide), nlAt_yes U (p + 1) (by omega) h1, gap_one (c := 10) (by decide) U (p + 1) (by omega) h1]
  rfl⟩
theorem gp_2 : Gp ⟨#[32, 35, 32, 116, 114, 117, 101, 32, 41, 32, 125, 32, 34, 32, 38, 38, 32, 10]⟩ := ⟨by decide, by decide, fun a => by show mk2 a 32 = false; unfold mk2; simp, fun U p hz hb => by
  have hz : p + 18 ≤ U.size := hz
  have h0 : bt U p = 32 := hb 0 (by decide)
  have h1 : bt U (p + 1) = 35 := hb 1 (by decide)
  have hn : nlAt U (p + 1) = p + 17 := by
    have st : ∀ j, 1 ≤ j → j < 17 → nlAt U (p + j) = nlAt U (p + (j + 1)) := fun j hj1 hj2 => by
      rw [nlAt_go U (p + j) (by omega) ?_]
      · rfl
      · rw [hb j (by show j < 18; omega)]
        have : j = 1 ∨ j = 2 ∨ j = 3 ∨ j = 4 ∨ j = 5 ∨ j = 6 ∨ j = 7 ∨ j = 8 ∨ j = 9 ∨ j = 10 ∨ j = 11 ∨ j = 12 ∨ j = 13 ∨ j = 14 ∨ j = 15 ∨ j = 16 := by omega
        rcases this with rfl | rfl | rfl | rfl | rfl | rfl | rfl | rfl | rfl | rfl | rfl | rfl | rfl | rfl | rfl | rfl <;> decide
    rw [st 1 (by omega) (by omega), st 2 (by omega) (by omega), st 3 (by omega) (by omega), st 4 (by omega) (by omega), st 5 (by omega) (by omega), st 6 (by omega) (by omega), st 7 (by omega) (by omega), st 8 (by omega) (by omega), st 9 (by omega) (by omega), st 10 (by omega) (by omega), st 11 (by omega) (by omega), st 12 (by omega) (by omega), st 13 (by omega) (by omega), st 14 (by omega) (by omega), st 15 (by omega) (by omega), st 16 (by omega) (by omega)]
    exact nlAt_yes U (p + 17) (by omega) (hb 17 (by decide))
  rw [gap_one (c := 32) (by decide) U p (by omega) h0, gapS_rem U (p + 1) (by omega) h1, hn, gap_one (c := 10) (by decide) U (p + 17) (by omega) (hb 17 (by decide))]
  rfl⟩
theorem gp_n (n : Nat) : Gp (gpn n) := by
  unfold gpn
  split
  · exact gp_0
  · split
    · exact gp_1
    · split
      · exact gp_2
      · split
        · exact gp_3
        · exact gp_4
theorem gpn_le (n : Nat) : (gpn n).size ≤ 18 := by
  unfold gpn
  repeat' split
  all_goals decide
/-- The other source, up to k tokens. -/
def pw (s : ByteArray) (g : Nat → ByteArray) (T : List Tok) : Nat → ByteArray
  | 0 => ⟨#[]⟩
  | k + 1 => pw s g T k ++ g k ++ s.extract (tk T k).a (tk T k).e
/-- A token where it has come to stand. -/
def mt (s : ByteArray) (g : Nat → ByteArray) (T : List Tok) (k : Nat) : Tok := ⟨(tk T k).kind, (tk T k).text, (tk T k).num, (pw s g T k).size + (g k).size, (pw s g T (k + 1)).size⟩
theorem pw_app (s : ByteArray) (g : Nat → ByteArray) (T : List Tok) : ∀ (n k : Nat), ∃ R, pw s g T (k + n) = pw s g T k ++ R
  | 0, k => ⟨ByteArray.empty, by rw [ByteArray.append_empty]; rfl⟩
  | n + 1, k => by
    obtain ⟨R, h⟩ := pw_app s g T n k
    exact ⟨R ++ g (k + n) ++ s.extract (tk T (k + n)).a (tk T (k + n)).e, by show pw s g T (k + n) ++ g (k + n) ++ s.extract (tk T (k + n)).a (tk T (k + n)).e = _; rw [h]; simp only [ByteArray.append_assoc]⟩
theorem pw_succ {s : ByteArray} {g : Nat → ByteArray} {T : List Tok} {k : Nat} (h1 : (tk T k).a ≤ (tk T k).e) (h2 : (tk T k).e ≤ s.size) : (pw s g T (k + 1)).size = (pw s g T k).size + (g k).size + ((tk T k).e - (tk T k).a) := by
  show (pw s g T k ++ g k ++ s.extract (tk T k).a (tk T k).e).size = _
  rw [ByteArray.size_append, ByteArray.size_append, ext_sz s _ _ h2]
theorem pw_at {s : ByteArray} {g : Nat → ByteArray} {T : List Tok} {k L : Nat} (hk : k < L) (h2 : (tk T k).e ≤ s.size) :
    (∀ j, j < (g k).size → bt (pw s g T L) ((pw s g T k).size + j) = bt (g k) j) ∧ (∀ j, j < (tk T k).e - (tk T k).a → bt (pw s g T L) ((pw s g T k).size + (g k).size + j) = bt s ((tk T k).a + j)) ∧ (pw s g T (k + 1)).size ≤ (pw s g T L).size := by
  obtain ⟨R, hR⟩ := pw_app s g T (L - (k + 1)) (k + 1)
  rw [show k + 1 + (L - (k + 1)) = L by omega] at hR
  have hx := ext_sz s (tk T k).a (tk T k).e h2
  have e1 : pw s g T (k + 1) = pw s g T k ++ g k ++ s.extract (tk T k).a (tk T k).e := rfl
  have hz : (pw s g T (k + 1)).size = (pw s g T k).size + (g k).size + ((tk T k).e - (tk T k).a) := by rw [e1, ByteArray.size_append, ByteArray.size_append, hx]
  refine ⟨fun j hj => ?_, fun j hj => ?_, by rw [hR, ByteArray.size_append]; omega⟩
  · rw [hR, bt_app', if_pos (by omega), e1, bt_app', if_pos (by rw [ByteArray.size_append]; omega), bt_app', if_neg (by omega), show (pw s g T k).size + j - (pw s g T k).size = j by omega]
  · rw [hR, bt_app', if_pos (by omega), e1, bt_app', if_neg (by rw [ByteArray.size_append]; omega), ByteArray.size_append, show (pw s g T k).size + (g k).size + j - ((pw s g T k).size + (g k).size) = j by omega]
    exact ext_bt s _ _ j hj h2
/-- The tokens of a source and its end. -/
structure Tks (s : ByteArray) (T : List Tok) : Prop where
  pos : 0 < T.length
  mid : ∀ k, k + 1 < T.length → (tk T k).a < s.size ∧ tokS s (tk T k).a = .ok (tk T k)
  last : tk T (T.length - 1) = tokE s.size
theorem Tks.in {s : ByteArray} {T : List Tok} (h : Tks s T) {k : Nat} (hk : k < T.length) : (tk T k).a ≤ (tk T k).e ∧ (tk T k).e ≤ s.size := by
  by_cases hl : k + 1 < T.length
  · have h1 := h.mid k hl
    have h2 := tok_in h1.1 h1.2
    omega
  · rw [show k = T.length - 1 by omega, h.last]
    exact ⟨Nat.le_refl _, Nat.le_refl _⟩
theorem pw_scan {s : ByteArray} {g : Nat → ByteArray} {T : List Tok} (hT : Tks s T) (hG : ∀ i, Gp (g i)) : ∀ (n k : Nat), T.length - k = n → k < T.length → scanS (pw s g T T.length) (pw s g T k).size = ((List.range' k (T.length - k)).map (mt s g T), none) := by
  intro n
  induction n with
  | zero => intro k hn hk; omega
  | succ n ih =>
    intro k hn hk
    have hin := hT.in hk
    have ⟨b1, b2, b3⟩ := pw_at (s := s) (g := g) (T := T) (k := k) (L := T.length) hk hin.2
    have hz := pw_succ (g := g) hin.1 hin.2
    have hgk := hG k
    have hsk := hgk.skip (pw s g T T.length) (pw s g T k).size (by omega) b1
    by_cases hl : k + 1 < T.length
    · have hm := hT.mid k hl
      have hi2 := tok_in hm.1 hm.2
      have hin1 := hT.in hl
      have ⟨c1, c2, c3⟩ := pw_at (s := s) (g := g) (T := T) (k := k + 1) (L := T.length) hl hin1.2
      have hz1 := pw_succ (g := g) hin1.1 hin1.2
      have hg1 := hG (k + 1)
      have E : Em2 s (pw s g T T.length) (tk T k).a (tk T k).e ((pw s g T k).size + (g k).size) := by
        refine ⟨hin.1, hin.2, by omega, b2, Or.inr ?_⟩
        have e0 : bt (pw s g T T.length) ((pw s g T k).size + (g k).size + ((tk T k).e - (tk T k).a)) = bt (g (k + 1)) 0 := by
          have := c1 0 hg1.pos
          rw [Nat.add_zero, hz] at this
          exact this
        rw [e0]
        exact ⟨hg1.word, hg1.mark⟩
      have htk := tok_em2 hm.1 hm.2 E
      have hf := tok_first hm.1 hm.2
      have e0 : bt (pw s g T T.length) ((pw s g T k).size + (g k).size) = bt s (tk T k).a := by have := b2 0 (by omega); rwa [Nat.add_zero, Nat.add_zero] at this
      have hg : gapS (pw s g T T.length) (pw s g T k).size = (pw s g T k).size + (g k).size := by
        rw [hsk]
        exact gapS_no _ _ (by omega) (by rw [e0]; exact hf.1) (by rw [e0]; exact hf.2)
      have hs := scan_go (s := pw s g T T.length) (k := (pw s g T k).size) (by rw [hg]; omega) (by rw [hg]; exact htk)
      have ihk := ih (k + 1) (by omega) hl
      rw [hs]
      simp only
      rw [show (pw s g T k).size + (g k).size + ((tk T k).e - (tk T k).a) = (pw s g T (k + 1)).size from hz.symm, ihk, show T.length - k = (T.length - (k + 1)) + 1 by omega, List.range'_succ, List.map_cons]
      rfl
    · have hke : k = T.length - 1 := by omega
      have hlast := hT.last
      rw [← hke] at hlast
      have hT1 : T.length = k + 1 := by omega
      have e1 : (tk T k).e - (tk T k).a = 0 := by rw [hlast]; exact Nat.sub_self _
      have hU : (pw s g T T.length).size = (pw s g T k).size + (g k).size := by rw [hT1, hz, e1]; rfl
      have hg : gapS (pw s g T T.length) (pw s g T k).size = (pw s g T T.length).size := by
        rw [hsk, ← hU]
        exact gapS_end _ _ (by omega)
      rw [scan_fin (by rw [hg]; omega), show T.length - k = 1 by omega]
      simp only [List.range'_one, List.map_cons, List.map_nil]
      have hm : mt s g T k = tokE (pw s g T T.length).size := by
        unfold mt
        rw [hlast]
        unfold tokE
        rw [hU, hz, e1]
        rfl
      rw [hm]
theorem scan_tks {src : ByteArray} (h : (scanT src).2 = none) : Tks src (scanT src).1 := by
  obtain ⟨_, l, hl, hs⟩ := scan_shape h
  have hp := (scan_fin2 h).1
  refine ⟨hp, fun k hk => ?_, ?_⟩
  · have hm : tk (scanT src).1 k ∈ l := by
      rw [hl] at hk ⊢
      have h1 : k < l.length := by simp at hk; omega
      unfold tk
      rw [List.getD_eq_getElem?_getD, List.getElem?_append_left h1, List.getElem?_eq_getElem h1]
      exact List.getElem_mem h1
    exact ⟨(hs _ hm).1, (hs _ hm).2.1⟩
  · rw [hl]
    rw [List.length_append, List.length_singleton, Nat.add_sub_cancel, tk_last]
/-- The tokens of the other source. -/
def mts (s : ByteArray) (g : Nat → ByteArray) (T : List Tok) : List Tok := (List.range' 0 T.length).map (mt s g T)
theorem tk_mts {s : ByteArray} {g : Nat → ByteArray} {T : List Tok} {k : Nat} (hk : k < T.length) : tk (mts s g T) k = mt s g T k := by
  unfold tk mts
  rw [List.getD_eq_getElem?_getD, List.getElem?_map, List.getElem?_range' hk]
  simp
theorem tk_big {T : List Tok} {k : Nat} (hk : ¬ k < T.length) : tk T k = tok0 := by
  unfold tk
  rw [List.getD_eq_getElem?_getD, List.getElem?_eq_none (by omega)]
  rfl
theorem sk_mts {src : ByteArray} (h : (scanT src).2 = none) (g : Nat → ByteArray) : Sk (scanT src).1 (mts src g (scanT src).1) := by
  have hl : (mts src g (scanT src).1).length = (scanT src).1.length := by unfold mts; simp
  have key : ∀ i, (tk (mts src g (scanT src).1) i).kind = (tk (scanT src).1 i).kind ∧ (tk (mts src g (scanT src).1) i).text = (tk (scanT src).1 i).text ∧ (tk (mts src g (scanT src).1) i).num = (tk (scanT src).1 i).num := fun i => by
    by_cases hi : i < (scanT src).1.length
    · rw [tk_mts hi]; exact ⟨rfl, rfl, rfl⟩
    · rw [tk_big hi, tk_big (by rw [hl]; exact hi)]; exact ⟨rfl, rfl, rfl⟩
  exact ⟨fun i => (key i).1, fun i => (key i).2.1, fun i => (key i).2.2, (scan_fin2 h).2⟩
/-- Both sources read alike. -/
theorem blanks_pure {src : ByteArray} (h : (scanT src).2 = none) {g : Nat → ByteArray} (hG : ∀ i, Gp (g i)) (hz : (pw src g (scanT src).1 (scanT src).1.length).size ≤ 4096) :
    Rr (scanT src).1 (mts src g (scanT src).1) (wholeP (scanT src).1 16392) (wholeP (mts src g (scanT src).1) 16392) ∧ scanT (pw src g (scanT src).1 (scanT src).1.length) = (mts src g (scanT src).1, none) := by
  refine ⟨rr_whole (sk_mts h g) (scan_fin2 h).1 16392, ?_⟩
  have := pw_scan (scan_tks h) hG _ 0 rfl (scan_fin2 h).1
  have e : ∀ U : ByteArray, U.size ≤ 4096 → scanT U = scanS U 0 := fun U hU => by unfold scanT; exact if_pos hU
  rw [e _ hz]
  exact this
end Go.Proofs.YtcldglilhhhdoaaGreatDoor.L
