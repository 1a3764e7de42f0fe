import Derived.Test.YtcldglilhhhdoaaGreatDoorPhA
import Derived.Test.YtcldglilhhhdoaaGreatDoorMgAT
namespace Go.Proofs.YtcldglilhhhdoaaGreatDoor.L
open Go.RowKit Go.Shelf
set_option linter.unusedVariables false
set_option linter.unusedSimpArgs false
theorem tk_l {x y : List Tok} {i : Nat} (h : i < x.length) : tk (x ++ y) i = tk x i := by
  unfold tk
  rw [List.getD_eq_getElem?_getD, List.getD_eq_getElem?_getD, List.getElem?_append_left h]
theorem tk_r (x y : List Tok) (i : Nat) : tk (x ++ y) (x.length + i) = tk y i := by
  unfold tk
  rw [List.getD_eq_getElem?_getD, List.getD_eq_getElem?_getD, List.getElem?_append_right (by omega), show x.length + i - x.length = i by omega]
theorem tk_map {x : List Tok} {f : Tok → Tok} {i : Nat} (h : i < x.length) : tk (x.map f) i = f (tk x i) := by
  unfold tk
  rw [List.getD_eq_getElem?_getD, List.getD_eq_getElem?_getD, List.getElem?_map, List.getElem?_eq_getElem h]
  rfl
theorem numTok_kind {s : ByteArray} {k : Nat} {t : Tok} (h : numTok s k = .ok t) : t.kind ≠ 0 := by
  unfold numTok at h
  split at h
  · cases h
  · rw [← RR.ok.inj h]; exact Nat.succ_ne_zero _
theorem tok_kind {s : ByteArray} {k : Nat} {t : Tok} (h : tokS s k = .ok t) : t.kind ≠ 0 := by
  unfold tokS at h
  split at h
  · cases hx : txS s k (k + 1) [] with
    | bad c a => rw [hx] at h; exact RR.noConfusion h
    | ok l e => rw [hx] at h; rw [← RR.ok.inj h]; exact Nat.succ_ne_zero _
  · split at h
    · exact numTok_kind h
    · split at h
      · rw [← RR.ok.inj h]; exact Nat.succ_ne_zero _
      · unfold markS at h
        split at h
        · rw [← RR.ok.inj h]; exact Nat.succ_ne_zero _
        · split at h
          · rw [← RR.ok.inj h]; exact Nat.succ_ne_zero _
          · cases h
/-- A source that reads, with its parts and its tokens ahead of the end. -/
structure Rd1 (src : ByteArray) (A : List Pt) (l : List Tok) : Prop where
  sz : src.size ≤ 4096
  scan : scanT src = (l ++ [tokE src.size], none)
  len : l.length ≤ src.size
  nz : ∀ i, i < l.length → (tk l i).kind ≠ 0
  pos : 0 < A.length
  le : A.length ≤ 1000
  run : ∀ n, 4 * (l.length + 1) + 3 < n → n ≤ 16392 → ∃ os, gr (l ++ [tokE src.size]) n .expr ⟨0, 0, [], []⟩ = .ok ((A.length : Int) - 1, ⟨l.length, 0, A, os⟩)
theorem jt_refl {T : List Tok} (h : ∀ k, k < T.length → (tk T k).kind ≠ 0 → k + 1 < T.length) : Jt T T 0 := ⟨fun i _ => Or.inl ⟨rfl, rfl, rfl⟩, h⟩
theorem fre_last (T : List Pt) {k : Int} (h : fre T T.length = [k]) : k = (T.length : Int) - 1 ∧ 0 < T.length := by
  cases hl : T.length with
  | zero => rw [hl] at h; cases h
  | succ n =>
    rw [hl] at h
    simp only [fre] at h
    have h2 := congrArg List.getLast? h
    rw [List.getLast?_concat] at h2
    simp at h2
    exact ⟨by omega, by omega⟩
theorem rd1_of {src : ByteArray} {s : PS} (h : parR src = .ok s) : ∃ l, Rd1 src s.ps l := by
  unfold parR at h
  cases hs : (scanT src).2 with
  | some q => obtain ⟨c, a⟩ := q; rw [hs] at h; cases h
  | none =>
    rw [hs] at h
    simp only at h
    cases hw : wholeP (scanT src).1 16392 with
    | error q => rw [hw] at h; cases h
    | ok q =>
      obtain ⟨u, s1⟩ := q
      rw [hw] at h
      simp only [Except.ok.injEq] at h
      subst h
      unfold wholeP at hw
      obtain ⟨k, s2, e1, e2⟩ := bnd_inv hw
      have g := fo_gr (scan_txt hs) _ _ _ _ _ _ (gs_zero _) e1
      obtain ⟨hz, l, hl, hsp⟩ := scan_shape hs
      have hsc : scanT src = (l ++ [tokE src.size], none) := by rw [← hl, ← hs]
      have hT : scanT src = scanS src 0 := by unfold scanT; exact if_pos hz
      have hlen : l.length ≤ src.size := by
        have := scan_len src _ 0 rfl (Nat.zero_le _)
        rw [← hT, hsc] at this
        simp at this
        omega
      have hnz : ∀ i, i < l.length → (tk l i).kind ≠ 0 := fun i hi => by
        have hm : tk l i ∈ l := tk_mem hi
        exact tok_kind (hsp _ hm).2.1
      have hj := jr_gr (e := 0) (P := []) (jt_refl (scan_fin2 hs).2) 16392 .expr ⟨0, 0, [], []⟩ ⟨0, 0, [], []⟩ ⟨rfl, rfl, rfl, (scan_fin2 hs).1⟩ k s2 e1
      have hlt : s2.nx < (scanT src).1.length := by
        rcases hj with ⟨_, _, _, _, j⟩ | ⟨x, hx⟩
        · exact j.lt
        · rw [e1] at hx; cases hx
      have hns : s2.ns = 0 := (gn_gr _ _ _ _ _ e1).ns
      split at e2
      · rename_i hk0
        split at e2
        · cases e2
        · rename_i h1000
          injection e2 with e2; injection e2 with _ e2; subst e2
          have hf := fre_last _ g.fr
          have hnx : s2.nx = l.length := by
            rw [hl] at hlt hk0
            rw [List.length_append, List.length_singleton] at hlt
            by_cases hi : s2.nx < l.length
            · rw [tk_l hi] at hk0
              exact absurd hk0 (hnz _ hi)
            · omega
          refine ⟨l, hz, hsc, hlen, hnz, hf.2, by omega, fun n hn hn2 => ⟨s2.os, ?_⟩⟩
          rw [← gr_less (T := l ++ [tokE src.size]) (g := .expr) (s := ⟨0, 0, [], []⟩) (n := n) (m := 16392) (by simp [lvl]; omega) hn2, ← hl, e1, hf.1, ← hnx, ← hns]
      · cases e2
/-- The tokens of a source stand in T' from d on, and a shutting mark behind them. -/
structure Sits (src : ByteArray) (l : List Tok) (T' : List Tok) (d : Nat) : Prop where
  tok : ∀ i, i < l.length → ∃ b, tk T' (i + d) = shT b (tk l i)
  shut : ∃ x, tk T' (l.length + d) = m1 41 x
theorem m1_txt (c : UInt8) (x : Nat) : (m1 c x).text.toList = [c] := by simp [m1, ByteArray.toList_eq]
theorem m2_txt (c c' : UInt8) (x : Nat) : (m2 c c' x).text.toList = [c, c'] := by simp [m2, ByteArray.toList_eq]
theorem Sits.jt {src : ByteArray} {l T' : List Tok} {d : Nat} {A : List Pt} (h : Sits src l T' d) (R : Rd1 src A l) : Jt (l ++ [tokE src.size]) T' d := by
  refine ⟨fun i hi => ?_, fun k hk hne => ?_⟩
  · rw [List.length_append, List.length_singleton] at hi
    by_cases hl : i < l.length
    · obtain ⟨b, hb⟩ := h.tok i hl
      rw [tk_l hl, hb]
      exact Or.inl ⟨rfl, rfl, rfl⟩
    · obtain rfl : i = l.length := by omega
      obtain ⟨x, hx⟩ := h.shut
      rw [tk_last, hx]
      exact Or.inr ⟨rfl, rfl, m1_txt 41 x⟩
  · rw [List.length_append, List.length_singleton] at hk ⊢
    by_cases hl : k < l.length
    · omega
    · obtain rfl : k = l.length := by omega
      rw [tk_last] at hne
      exact absurd rfl hne
theorem isM_m1 {T : List Tok} {s : PS} {m : List UInt8} {c : UInt8} {x : Nat} (h : tk T s.nx = m1 c x) : isM T s m = decide ([c] = m) := by
  unfold isM
  rw [h, m1_txt]
  rfl
theorem isM_m2 {T : List Tok} {s : PS} {m : List UInt8} {c c' : UInt8} {x : Nat} (h : tk T s.nx = m2 c c' x) : isM T s m = decide ([c, c'] = m) := by
  unfold isM
  rw [h, m2_txt]
  rfl
theorem isM_not {T : List Tok} {s : PS} {m : List UInt8} (h : (tk T s.nx).kind ≠ 4) : isM T s m = false := by
  unfold isM
  rw [decide_eq_false h]
  rfl
/-- The inner source read where it stands. -/
theorem inner_run {src : ByteArray} {l T' : List Tok} {d : Nat} {A : List Pt} (h : Sits src l T' d) (R : Rd1 src A l) (e : Nat) (P : List Pt) (os : List Int) {n : Nat} (h1 : 4 * (l.length + 1) + 3 < n) (h2 : n ≤ 16392) :
    (∃ os', gr T' n .expr ⟨d, e, P, os⟩ = .ok ((P.length : Int) + A.length - 1, ⟨l.length + d, e, P ++ A.map (shK P.length), os'⟩)) ∨ ∃ x, gr T' n .expr ⟨d, e, P, os⟩ = .error (122, x) := by
  obtain ⟨os1, hr⟩ := R.run n h1 h2
  rcases jr_gr (e := e) (P := P) (h.jt R) n .expr ⟨0, 0, [], []⟩ ⟨d, e, P, os⟩ ⟨by simp, by simp, by simp, by simp⟩ _ _ hr with ⟨a', s', e1, ra, j⟩ | hx
  · left
    refine ⟨s'.os, ?_⟩
    have j1 := j.nx
    have j2 := j.ns
    have j3 := j.ps
    simp only [Nat.zero_add] at j1 j2 j3
    unfold rK at ra
    rw [e1, ra]
    obtain ⟨nx, ns, ps, os2⟩ := s'
    simp only at j1 j2 j3
    subst j1
    subst j2
    subst j3
    rw [show (A.length : Int) - 1 + (P.length : Int) = (P.length : Int) + A.length - 1 by omega]
  · exact Or.inr hx
/-- A group of it. -/
theorem group_run {src : ByteArray} {l T' : List Tok} {p : Nat} {A : List Pt} (h : Sits src l T' (p + 1)) (R : Rd1 src A l) {y : Nat} (ho : tk T' p = m1 40 y) (e : Nat) (P : List Pt) (os : List Int) {n : Nat} (h1 : 4 * (l.length + 1) + 3 < n) (h2 : n ≤ 16392) :
    (∃ os', gr T' (n + 1) .unit ⟨p, e, P, os⟩ = .ok ((P.length : Int) + A.length - 1, ⟨l.length + (p + 1) + 1, e, P ++ A.map (shK P.length), os'⟩)) ∨ ∃ x, gr T' (n + 1) .unit ⟨p, e, P, os⟩ = .error (122, x) := by
  have e1 : isM T' ⟨p, e, P, os⟩ [33] = false := isM_m1 (s := ⟨p, e, P, os⟩) ho
  have e2 : isM T' ⟨p, e, P, os⟩ [40] = true := isM_m1 (s := ⟨p, e, P, os⟩) ho
  have eu : gr T' (n + 1) .unit ⟨p, e, P, os⟩ = withP T' (gr T' n .expr) ⟨p, e, P, os⟩ := by
    show unitP T' (gr T' n .expr) (gr T' n .unit) (gr T' n .term) ⟨p, e, P, os⟩ = _
    unfold unitP
    rw [e1, e2, if_neg (by decide), if_pos rfl]
  rw [eu]
  unfold withP
  by_cases h32 : e = 32
  · right
    refine ⟨((tk T' p).a : Int), ?_⟩
    unfold openP
    rw [e2, if_pos rfl, if_pos h32]
    rfl
  · have eo : openP T' ⟨p, e, P, os⟩ [40] = .ok ((), ⟨p + 1, e + 1, P, os⟩) := by
      unfold openP
      rw [e2, if_pos rfl, if_neg h32]
      rfl
    rw [eo, bnd_ok]
    rcases inner_run h R (e + 1) P os h1 h2 with ⟨os', hr⟩ | ⟨x, hx⟩
    · left
      refine ⟨os', ?_⟩
      rw [hr, bnd_ok]
      obtain ⟨x, hx⟩ := h.shut
      have em : isM T' ⟨l.length + (p + 1), e + 1, P ++ A.map (shK P.length), os'⟩ [41] = true := isM_m1 (s := ⟨l.length + (p + 1), e + 1, P ++ A.map (shK P.length), os'⟩) hx
      unfold markP
      rw [em, if_pos rfl, bnd_ok]
      rfl
    · right
      exact ⟨x, by rw [hx]; rfl⟩
theorem row_one {T : List Tok} {one : PS → PRes Int} {kd : Int} {m : List UInt8} {s s1 : PS} {k : Int} (h : one s = .ok (k, s1)) (hm : isM T s1 m = false) : rowP T one kd m s = .ok (k, s1) := by
  unfold rowP
  rw [h, bnd_ok]
  have e : rowsP T one m 4097 [k] s1 = .ok ([k], s1) := by
    show (if isM T s1 m = true then _ else _) = _
    rw [hm]
    rfl
  rw [e, bnd_ok]
  rfl
theorem row_bad {T : List Tok} {one : PS → PRes Int} {kd : Int} {m : List UInt8} {s : PS} {q : Nat × Int} (h : one s = .error q) : rowP T one kd m s = .error q := by
  unfold rowP
  rw [h]
  rfl
theorem row_two {T : List Tok} {one : PS → PRes Int} {kd : Int} {m : List UInt8} {s s1 s2 : PS} {k k2 : Int} (h : one s = .ok (k, s1)) (hm : isM T s1 m = true) (h2 : one (adv s1) = .ok (k2, s2)) (hm2 : isM T s2 m = false) : ∃ x, rowP T one kd m s = putP s2 ⟨kd, ⟨#[]⟩, 0, [k, k2]⟩ x := by
  refine ⟨((tk T s1.nx).a : Int), ?_⟩
  unfold rowP
  rw [h, bnd_ok]
  have e : rowsP T one m 4097 [k] s1 = .ok ([k, k2], s2) := by
    show (if isM T s1 m = true then bnd (one (adv s1)) fun k' s' => rowsP T one m 4096 ([k] ++ [k']) s' else _) = _
    rw [hm, if_pos rfl, h2, bnd_ok]
    show (if isM T s2 m = true then _ else _) = _
    rw [hm2]
    rfl
  rw [e, bnd_ok]
  rfl
theorem row_two_bad {T : List Tok} {one : PS → PRes Int} {kd : Int} {m : List UInt8} {s s1 : PS} {k : Int} {q : Nat × Int} (h : one s = .ok (k, s1)) (hm : isM T s1 m = true) (h2 : one (adv s1) = .error q) : rowP T one kd m s = .error q := by
  unfold rowP
  rw [h, bnd_ok]
  have e : rowsP T one m 4097 [k] s1 = .error q := by
    show (if isM T s1 m = true then bnd (one (adv s1)) fun k' s' => rowsP T one m 4096 ([k] ++ [k']) s' else _) = _
    rw [hm, if_pos rfl, h2]
    rfl
  rw [e]
  rfl
/-- What the whole is asked for. -/
def Wh (T : List Tok) (L : List Pt) : Prop := (∃ x, wholeP T 16392 = .error (122, x)) ∨ (1000 < L.length ∧ ∃ x, wholeP T 16392 = .error (123, x)) ∨ (L.length ≤ 1000 ∧ ∃ s, wholeP T 16392 = .ok ((), s) ∧ s.ps = L)
theorem wh_ok {T : List Tok} {L : List Pt} {k : Int} {s : PS} (h : gr T 16392 .expr ⟨0, 0, [], []⟩ = .ok (k, s)) (hp : s.ps = L) (hk : (tk T s.nx).kind = 0) : Wh T L := by
  unfold Wh wholeP
  rw [h, bnd_ok, if_pos hk, hp]
  by_cases hl : 1000 < L.length
  · rw [if_pos hl]; exact Or.inr (Or.inl ⟨hl, _, rfl⟩)
  · rw [if_neg hl]; exact Or.inr (Or.inr ⟨by omega, s, rfl, hp⟩)
theorem wh_bad {T : List Tok} {L : List Pt} {x : Int} (h : gr T 16392 .expr ⟨0, 0, [], []⟩ = .error (122, x)) : Wh T L := by
  left
  exact ⟨x, by unfold wholeP; rw [h]; rfl⟩
theorem g_expr (T : List Tok) (n : Nat) (s : PS) : gr T (n + 1) .expr s = rowP T (gr T n .conj) 5 [124, 124] s := rfl
theorem g_conj (T : List Tok) (n : Nat) (s : PS) : gr T (n + 1) .conj s = rowP T (gr T n .unit) 4 [38, 38] s := rfl
/-- The whole is one unit. -/
theorem wh_unit {T : List Tok} {L : List Pt} (h : (∃ k nx os, gr T 16390 .unit ⟨0, 0, [], []⟩ = .ok (k, ⟨nx, 0, L, os⟩) ∧ (tk T nx).kind = 0) ∨ ∃ x, gr T 16390 .unit ⟨0, 0, [], []⟩ = .error (122, x)) : Wh T L := by
  rcases h with ⟨k, nx, os, h, hk⟩ | ⟨x, h⟩
  · have hm : ∀ m, isM T ⟨nx, 0, L, os⟩ m = false := fun m => isM_not (by show (tk T nx).kind ≠ 4; rw [hk]; decide)
    have h2 : gr T 16391 .conj ⟨0, 0, [], []⟩ = .ok (k, ⟨nx, 0, L, os⟩) := (g_conj T 16390 _).trans (row_one h (hm _))
    have h3 : gr T 16392 .expr ⟨0, 0, [], []⟩ = .ok (k, ⟨nx, 0, L, os⟩) := (g_expr T 16391 _).trans (row_one h2 (hm _))
    exact wh_ok h3 rfl hk
  · have h2 : gr T 16391 .conj ⟨0, 0, [], []⟩ = .error (122, x) := (g_conj T 16390 _).trans (row_bad h)
    have h3 : gr T 16392 .expr ⟨0, 0, [], []⟩ = .error (122, x) := (g_expr T 16391 _).trans (row_bad h2)
    exact wh_bad h3
theorem map_sh0 (A : List Pt) : A.map (shK ([] : List Pt).length) = A := by
  have : (shK (([] : List Pt).length : Int)) = id := by
    funext p
    unfold shK
    simp
  rw [this]
  simp
end Go.Proofs.YtcldglilhhhdoaaGreatDoor.L
