import Derived.Test.YtcldglilhhhdoaaGreatDoorMgAN
import Derived.Test.YtcldglilhhhdoaaGreatDoorMgAI
namespace Go.Proofs.YtcldglilhhhdoaaGreatDoor.L
open Go.RowKit Go.Shelf
set_option linter.unusedVariables false
theorem bt_app' (a b : ByteArray) (j : Nat) : bt (a ++ b) j = if j < a.size then bt a j else bt b (j - a.size) := by
  unfold bt
  rw [ByteArray.data_append, Array.toList_append]
  have hz : a.data.toList.length = a.size := Array.length_toList
  simp only [List.getD_eq_getElem?_getD]
  split
  · rw [List.getElem?_append_left (by omega)]
  · rw [List.getElem?_append_right (by omega), hz]
/-- The tokens of a source without a fault: each stands where it says; the last one is the end. -/
theorem toks_spec (s : ByteArray) : ∀ (n k : Nat), s.size - k = n → k ≤ s.size → (scanS s k).2 = none → ∃ l, (scanS s k).1 = l ++ [tokE s.size] ∧ ∀ t, t ∈ l → t.a < s.size ∧ tokS s t.a = .ok t ∧ t.e ≤ s.size := by
  intro n
  induction n using Nat.strongRecOn with
  | ind n ih =>
    intro k hn hk h
    by_cases hl : gapS s k < s.size
    · cases ht : tokS s (gapS s k) with
      | bad c a => rw [scan_bad hl ht] at h; cases h
      | ok t =>
        rw [scan_go hl ht] at h ⊢
        have h1 := tok_in hl ht
        have h2 := gapS_ge s k
        obtain ⟨l, e, hall⟩ := ih (s.size - t.e) (by omega) t.e rfl h1.2.2 h
        refine ⟨t :: l, by rw [e]; rfl, ?_⟩
        intro u hu
        rcases List.mem_cons.1 hu with e1 | hu
        · subst e1
          rw [h1.1]
          exact ⟨hl, ht, h1.2.2⟩
        · exact hall u hu
    · rw [scan_fin hl]
      exact ⟨[], rfl, fun t ht => by cases ht⟩
def gp : ByteArray := ⟨#[32, 35, 34, 10]⟩
theorem gp_size : gp.size = 4 := rfl
def key (t : Tok) : Nat × ByteArray × Int := (t.kind, t.text, t.num)
/-- What is written of the tokens, the end's piece last. -/
def widc (s : ByteArray) : List Tok → ByteArray
  | [] => gp
  | t :: r => gp ++ s.extract t.a t.e ++ widc s r
theorem widc_size (s : ByteArray) (l : List Tok) : 4 ≤ (widc s l).size := by
  cases l with
  | nil => exact Nat.le_refl _
  | cons t r => simp only [widc, ByteArray.size_append]; rw [gp_size]; omega
theorem widc_at (s : ByteArray) (l : List Tok) {j : Nat} (hj : j < 4) : bt (widc s l) j = bt gp j := by
  cases l with
  | nil => rfl
  | cons t r =>
    simp only [widc]
    rw [bt_app', if_pos (by simp only [ByteArray.size_append]; rw [gp_size]; omega), bt_app', if_pos (by rw [gp_size]; exact hj)]
theorem gap4 {U : ByteArray} {p : Nat} (hz : p + 4 ≤ U.size) (h0 : bt U p = 32) (h1 : bt U (p + 1) = 35) (h2 : bt U (p + 2) = 34) (h3 : bt U (p + 3) = 10) : gapS U p = gapS U (p + 4) := by
  have e : nlAt U (p + 1) = p + 3 := by
    rw [nlAt_go U (p + 1) (by omega) (by rw [h1]; decide), nlAt_go U (p + 1 + 1) (by omega) (by rw [show p + 1 + 1 = p + 2 by omega, h2]; decide), nlAt_yes U (p + 1 + 1 + 1) (by omega) (by rw [show p + 1 + 1 + 1 = p + 3 by omega]; exact h3)]
  rw [gapS_blk U p (by omega) (by rw [h0]; decide), gapS_rem U (p + 1) (by omega) h1, e, gapS_blk U (p + 3) (by omega) (by rw [h3]; decide)]
theorem ext_bt (s : ByteArray) (a e j : Nat) (h : j < e - a) (he : e ≤ s.size) : bt (s.extract a e) j = bt s (a + j) := bt_ext s a e j (by omega) he
theorem ext_sz (s : ByteArray) (a e : Nat) (he : e ≤ s.size) : (s.extract a e).size = e - a := by simp; omega
theorem wide_scan (s : ByteArray) : ∀ (l : List Tok), (∀ t, t ∈ l → t.a < s.size ∧ tokS s t.a = .ok t ∧ t.e ≤ s.size) → ∀ (pre : ByteArray), (scanS (pre ++ widc s l) pre.size).2 = none ∧ (scanS (pre ++ widc s l) pre.size).1.map key = (l ++ [tokE s.size]).map key
  | [], _, pre => by
    have b : ∀ j, j < 4 → bt (pre ++ widc s []) (pre.size + j) = bt gp j := by
      intro j hj
      rw [bt_app', if_neg (by omega), show pre.size + j - pre.size = j by omega]
      rfl
    have hz : (pre ++ widc s []).size = pre.size + 4 := by simp only [ByteArray.size_append]; rfl
    have hg : gapS (pre ++ widc s []) pre.size = pre.size + 4 := by
      rw [gap4 (p := pre.size) (by omega) (b 0 (by decide)) (b 1 (by decide)) (b 2 (by decide)) (b 3 (by decide))]
      exact gapS_end _ _ (by omega)
    rw [scan_fin (by omega)]
    exact ⟨rfl, rfl⟩
  | t :: r, hall, pre => by
    have ht := hall t (List.mem_cons_self ..)
    have hin := tok_in ht.1 ht.2.1
    have hx := ext_sz s t.a t.e ht.2.2
    have hw4 := widc_size s r
    obtain ⟨U, hU⟩ : ∃ U, U = pre ++ widc s (t :: r) := ⟨_, rfl⟩
    have eU : U = (pre ++ gp ++ s.extract t.a t.e) ++ widc s r := by rw [hU]; simp only [widc, ByteArray.append_assoc]
    have hz : U.size = pre.size + 4 + (t.e - t.a) + (widc s r).size := by rw [eU]; simp only [ByteArray.size_append, hx]; rw [gp_size]
    have b : ∀ j, j < 4 → bt U (pre.size + j) = bt gp j := by
      intro j hj
      rw [hU, bt_app', if_neg (by omega), show pre.size + j - pre.size = j by omega]
      exact widc_at s (t :: r) hj
    have E : Emb s U t.a t.e (pre.size + 4) := by
      refine ⟨by omega, ht.2.2, by omega, ?_, Or.inr ?_⟩
      · intro j hj
        rw [eU, bt_app', if_pos (by simp only [ByteArray.size_append, hx]; rw [gp_size]; omega), bt_app', if_neg (by simp only [ByteArray.size_append]; rw [gp_size]; omega)]
        rw [show pre.size + 4 + j - (pre ++ gp).size = j by simp only [ByteArray.size_append]; rw [gp_size]; omega]
        exact ext_bt s t.a t.e j hj ht.2.2
      · rw [eU, bt_app', if_neg (by simp only [ByteArray.size_append, hx]; rw [gp_size]; omega)]
        rw [show pre.size + 4 + (t.e - t.a) - (pre ++ gp ++ s.extract t.a t.e).size = 0 by simp only [ByteArray.size_append, hx]; rw [gp_size]; omega]
        exact widc_at s r (by decide)
    have htk := tok_emb ht.1 ht.2.1 E
    have hf := tok_first ht.1 ht.2.1
    have e0 : bt U (pre.size + 4) = bt s t.a := by have := E.at (Nat.le_refl t.a) hin.2.1; rwa [Nat.sub_self, Nat.add_zero] at this
    have hg : gapS U pre.size = pre.size + 4 := by
      rw [gap4 (p := pre.size) (by omega) (b 0 (by decide)) (b 1 (by decide)) (b 2 (by decide)) (b 3 (by decide))]
      exact gapS_no _ _ (by omega) (by rw [e0]; exact hf.1) (by rw [e0]; exact hf.2)
    have hs := scan_go (s := U) (k := pre.size) (by rw [hg]; omega) (by rw [hg]; exact htk)
    have ih := wide_scan s r (fun u hu => hall u (List.mem_cons_of_mem _ hu)) (pre ++ gp ++ s.extract t.a t.e)
    rw [← eU, show (pre ++ gp ++ s.extract t.a t.e).size = pre.size + 4 + (t.e - t.a) by simp only [ByteArray.size_append, hx]; rw [gp_size]] at ih
    rw [← hU, hs]
    simp only at ih ⊢
    refine ⟨ih.1, ?_⟩
    rw [List.map_cons, List.cons_append, List.map_cons, ih.2]
    rfl
/-- A token cut out is a source of just that token. -/
theorem alone_scan {s : ByteArray} {t : Tok} (h1 : t.a < s.size) (h2 : tokS s t.a = .ok t) (hs : s.size ≤ 4096) : scanT (s.extract t.a t.e) = ([⟨t.kind, t.text, t.num, 0, t.e - t.a⟩, tokE (t.e - t.a)], none) := by
  have hin := tok_in h1 h2
  have hx := ext_sz s t.a t.e hin.2.2
  have E : Emb s (s.extract t.a t.e) t.a t.e 0 := by
    refine ⟨by omega, hin.2.2, by omega, ?_, Or.inl ?_⟩
    · intro j hj
      rw [Nat.zero_add]
      exact ext_bt s t.a t.e j hj hin.2.2
    · exact bt_out _ _ (by omega)
  have htk := tok_emb h1 h2 E
  have hf := tok_first h1 h2
  have e0 : bt (s.extract t.a t.e) 0 = bt s t.a := by have := E.at (Nat.le_refl t.a) hin.2.1; rwa [Nat.sub_self, Nat.add_zero] at this
  generalize s.extract t.a t.e = u at *
  have hg : gapS u 0 = 0 := gapS_no _ _ (by omega) (by rw [e0]; exact hf.1) (by rw [e0]; exact hf.2)
  have s0 := scan_go (s := u) (k := 0) (by rw [hg]; omega) (by rw [hg]; exact htk)
  have s1 : scanS u (0 + (t.e - t.a)) = ([tokE u.size], none) := scan_fin (by rw [gapS_end u _ (by omega)]; omega)
  simp only at s0
  rw [s1, hx] at s0
  unfold scanT
  rw [if_pos (by omega), s0]
  simp
end Go.Proofs.YtcldglilhhhdoaaGreatDoor.L
