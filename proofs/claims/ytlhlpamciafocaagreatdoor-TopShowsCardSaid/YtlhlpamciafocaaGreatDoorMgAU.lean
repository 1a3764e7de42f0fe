import Derived.Test.YtlhlpamciafocaaGreatDoorMgAT
namespace Go.Proofs.YtlhlpamciafocaaGreatDoor.L
open Go.RowKit Go.Shelf
set_option linter.unusedVariables false
set_option linter.unusedSimpArgs false
/-- The parts from a on up to b are these parts with all that stands in them. -/
inductive Chn (T : List Pt) : Nat → List Int → Nat → Prop
  | nil (a : Nat) : Chn T a [] a
  | cons {a y b : Nat} {r : List Int} : Chn T a (pt T y).kids y → Chn T (y + 1) r b → Chn T a ((y : Int) :: r) b
theorem chn_app {T : List Pt} : ∀ {l1 l2 : List Int} {a c b : Nat}, Chn T a l1 c → Chn T c l2 b → Chn T a (l1 ++ l2) b
  | [], l2, a, c, b, h1, h2 => by cases h1; exact h2
  | x :: r, l2, a, c, b, h1, h2 => by
    cases h1 with
    | cons h3 h4 => exact .cons h3 (chn_app h4 h2)
theorem chn_split {T : List Pt} : ∀ {l1 l2 : List Int} {a b : Nat}, Chn T a (l1 ++ l2) b → ∃ c, Chn T a l1 c ∧ Chn T c l2 b
  | [], l2, a, b, h => ⟨a, .nil a, h⟩
  | x :: r, l2, a, b, h => by
    cases h with
    | cons h3 h4 =>
      obtain ⟨c, h5, h6⟩ := chn_split h4
      exact ⟨c, .cons h3 h5, h6⟩
theorem chn_fre {T : List Pt} (h : Ok0 T) : ∀ i, i ≤ T.length → Chn T 0 (fre T i) i
  | 0, _ => .nil 0
  | i + 1, hi => by
    have ih := chn_fre h i (by omega)
    have hO := h i (by omega)
    have e : fre T i = (fre T i).take ((fre T i).length - (pt T i).kids.length) ++ (pt T i).kids := by
      conv => lhs; rw [← List.take_append_drop ((fre T i).length - (pt T i).kids.length) (fre T i)]
      rw [← hO.kids]
    rw [e] at ih
    obtain ⟨c, h1, h2⟩ := chn_split ih
    exact chn_app h1 (.cons h2 (.nil _))
theorem fre_up (T : List Pt) : ∀ i, (fre T i).Pairwise (· < ·)
  | 0 => .nil
  | i + 1 => by
    show ((fre T i).take _ ++ [(i : Int)]).Pairwise (· < ·)
    rw [List.pairwise_append]
    refine ⟨(fre_up T i).sublist (List.take_sublist _ _), List.pairwise_singleton _ _, fun a ha b hb => ?_⟩
    rw [List.mem_singleton] at hb
    subst hb
    exact (fre_mem T i a (List.mem_of_mem_take ha)).2
theorem fre_back {T : List Pt} {x : Int} : ∀ {i j : Nat}, x < (j : Int) → j ≤ i → x ∈ fre T i → x ∈ fre T j
  | 0, j, h1, h2, h => by
    obtain rfl : j = 0 := by omega
    exact h
  | i + 1, j, h1, h2, h => by
    by_cases e : j = i + 1
    · rw [e]; exact h
    · have h3 : x ∈ (fre T i).take ((fre T i).length - (pt T i).kids.length) ++ [(i : Int)] := h
      rcases List.mem_append.1 h3 with h4 | h4
      · exact fre_back h1 (by omega) (List.mem_of_mem_take h4)
      · rw [List.mem_singleton] at h4
        omega
/-- A part that is left over is nobody's kid ahead of there. -/
theorem fre_no {T : List Pt} (h : Ok0 T) {x : Int} {i y : Nat} (hi : i < y) (hy : y ≤ T.length) (hx : x ∈ fre T y) : x ∉ (pt T i).kids := by
  intro hk
  have hO := h i (by omega)
  have hlt := hO.lt hk
  have h1 : x ∈ fre T (i + 1) := fre_back (by omega) (by omega) hx
  have h2 : x ∈ (fre T i).take ((fre T i).length - (pt T i).kids.length) ++ [(i : Int)] := h1
  rcases List.mem_append.1 h2 with h3 | h3
  · rw [hO.kids] at hk
    have hp := fre_up T i
    rw [← List.take_append_drop ((fre T i).length - (pt T i).kids.length) (fre T i), List.pairwise_append] at hp
    exact absurd (hp.2.2 x h3 x hk) (by omega)
  · rw [List.mem_singleton] at h3
    omega
theorem getD_setI (n : List Int) (x j : Nat) (v : Int) (hx : x < n.length) : (n.set x v).getD j 0 = if j = x then v else n.getD j 0 := by
  rw [List.getD_eq_getElem?_getD, List.getD_eq_getElem?_getD, List.getElem?_set]
  by_cases e : x = j
  · subst e
    simp [hx]
  · rw [if_neg e, if_neg (fun h => e h.symm)]
theorem inn_getI (T : List Pt) (i : Nat) : ∀ (ks n : List Int) (j : Nat), (∀ x, x ∈ ks → 0 ≤ x ∧ x < (i : Int)) → i < n.length → (inn T i ks n).getD j 0 = if (j : Int) ∈ ks then n.getD i 0 + btw (pt T i).kind (pt T j).kind else n.getD j 0
  | [], n, j, _, _ => by simp [inn]
  | x :: r, n, j, hk, hi => by
    have hx := hk x (by simp)
    have e : inn T i (x :: r) n = inn T i r (n.set x.toNat (n.getD i 0 + btw (pt T i).kind (pt T x.toNat).kind)) := rfl
    rw [e, inn_getI T i r _ j (fun y hy => hk y (by simp [hy])) (by simpa using hi), getD_setI n _ i _ (by omega), getD_setI n _ j _ (by omega), if_neg (show ¬ i = x.toNat by omega)]
    by_cases h1 : (j : Int) ∈ r
    · rw [if_pos h1, if_pos (by simp [h1])]
    · rw [if_neg h1]
      by_cases h2 : j = x.toNat
      · have h3 : (j : Int) = x := by omega
        rw [if_pos h2, if_pos (by simp [h3]), h2]
      · have h3 : ¬ (j : Int) = x := by omega
        rw [if_neg h2, if_neg (by simp [h1, h3])]
theorem nsts_at {T : List Pt} (hok : Ok0 T) : ∀ (i : Nat) (n : List Int) (j : Nat), i ≤ T.length → i ≤ n.length → (∀ k, k < i → (j : Int) ∉ (pt T k).kids) → (nsts T i n).getD j 0 = n.getD j 0
  | 0, n, j, _, _, _ => rfl
  | i + 1, n, j, hT, hn, h => by
    have hO := hok i (by omega)
    rw [nsts, nsts_at hok i _ j (by omega) (by rw [inn_len]; omega) (fun k hk => h k (by omega)), inn_getI T i _ _ _ (fun x hx => hO.lt hx) (by omega), if_neg (h i (by omega))]
theorem nsts_kid {T : List Pt} (hok : Ok0 T) {y x : Nat} (hx : (x : Int) ∈ (pt T y).kids) (hy : y < T.length) : ∀ (i : Nat) (n : List Int), i ≤ T.length → i ≤ n.length → y < i → (nsts T i n).getD x 0 = (nsts T i n).getD y 0 + btw (pt T y).kind (pt T x).kind
  | 0, n, _, _, h => absurd h (Nat.not_lt_zero _)
  | i + 1, n, hT, hn, h => by
    have hO := hok i (by omega)
    rw [nsts]
    by_cases e : y = i
    · subst e
      have hlt := hO.lt hx
      have hxf : (x : Int) ∈ fre T y := by
        have h9 := hx
        rw [hO.kids] at h9
        exact List.mem_of_mem_drop h9
      rw [nsts_at hok y _ x (by omega) (by rw [inn_len]; omega) (fun k hk => fre_no hok hk (by omega) hxf), nsts_at hok y _ y (by omega) (by rw [inn_len]; omega) (fun k hk h9 => by have := (hok k (by omega)).lt h9; omega), inn_getI T y _ _ _ (fun z hz => hO.lt hz) (by omega), inn_getI T y _ _ _ (fun z hz => hO.lt hz) (by omega), if_pos hx, if_neg (fun h9 => by have := hO.lt h9; omega)]
    · exact nsts_kid hok hx hy i _ (by omega) (by rw [inn_len]; omega) (by omega)
/-- How deep a kid stands. -/
theorem nest_kid {T : List Pt} (hok : Ok0 T) {y x : Nat} (hx : (x : Int) ∈ (pt T y).kids) (hy : y < T.length) : (nests T).getD x 0 = (nests T).getD y 0 + btw (pt T y).kind (pt T x).kind := by
  unfold nests
  exact nsts_kid hok hx hy T.length _ (Nat.le_refl _) (by simp) hy
end Go.Proofs.YtlhlpamciafocaaGreatDoor.L
namespace Go.Proofs.YtlhlpamciafocaaGreatDoor.L
open Go.RowKit Go.Shelf
set_option linter.unusedVariables false
set_option linter.unusedSimpArgs false
/-- A token without its place. -/
def kq (t : Tok) : Tok := ⟨t.kind, t.text, t.num, 0, 0⟩
def km (m : List UInt8) : Tok := ⟨4, S m, 0, 0, 0⟩
def kw (m : List UInt8) : Tok := ⟨3, S m, 0, 0, 0⟩
def kt (x : ByteArray) : Tok := ⟨1, x, 0, 0, 0⟩
def kn (z : Int) : Tok := ⟨2, ⟨#[]⟩, z, 0, 0⟩
def joinT : List (List Tok) → Tok → List Tok
  | [], _ => []
  | x :: r, s => x ++ r.flatMap (s :: ·)
/-- The tokens of a part's text. -/
def tkK (k : Int) (x : ByteArray) (nu : Int) (ks : List (List Tok)) : List Tok :=
  if k = 1 then [kw [116, 114, 117, 101]]
  else if k = 2 then [kw [102, 97, 108, 115, 101]]
  else if k = 3 then km [33] :: ks.getD 0 []
  else if k = 4 then joinT ks (km [38, 38])
  else if k = 5 then joinT ks (km [124, 124])
  else if k = 6 then ks.getD 0 [] ++ km (sgnL nu) :: ks.getD 1 []
  else if k = 7 then ks.getD 0 [] ++ kw (memL nu) :: ks.getD 1 []
  else if k = 8 then kw [110, 101, 97, 114] :: km [40] :: kt x :: km [44] :: (ks.getD 0 [] ++ [km [41]])
  else if k = 9 then kw [97, 112, 97, 114, 116] :: km [40] :: kt x :: km [44] :: (ks.getD 0 [] ++ [km [41]])
  else if k = 10 then [kw [116, 111, 108, 101, 114, 97, 116, 101, 100], km [40], kt x, km [41]]
  else if k = 11 then [kt x]
  else if k = 12 then [kn nu]
  else if k = 13 then km [123] :: (joinT ks (km [44]) ++ [km [125]])
  else if k = 14 then [kw (whoL nu), km [91], kt x, km [93]]
  else if k = 15 then [kw (whoL nu), km [46], kw [110, 97, 109, 101]]
  else if k = 16 then [kw (whoL nu), km [46], kw [107, 101, 121, 115]]
  else if k = 17 then [kw (whoL nu), km [46], kw [116, 97, 105, 110, 116, 115]]
  else if k = 18 then [kw (whoL nu), km [46], kw [99, 97, 112], km [40], kt x, km [41]]
  else if k = 19 then kw [105, 110, 116] :: km [40] :: (ks.getD 0 [] ++ [km [41]])
  else kw [99, 111, 117, 110, 116] :: km [40] :: kt x :: km [44] :: (ks.getD 0 [] ++ [km [41]])
def kidT (T : List Pt) (X : List (List Tok)) (k x : Int) : List Tok := if brB k (pt T x.toNat).kind then km [40] :: (X.getD x.toNat [] ++ [km [41]]) else X.getD x.toNat []
def ptk (T : List Pt) (X : List (List Tok)) (p : Pt) : List Tok := tkK p.kind p.text p.num (p.kids.map (kidT T X p.kind))
def tks (T : List Pt) : Nat → List (List Tok)
  | 0 => []
  | i + 1 => tks T i ++ [ptk T (tks T i) (pt T i)]
/-- The tokens of part y. -/
def tkp (T : List Pt) (y : Nat) : List Tok := ptk T (tks T y) (pt T y)
theorem tks_len (T : List Pt) : ∀ i, (tks T i).length = i
  | 0 => rfl
  | i + 1 => by simp [tks, tks_len T i]
theorem tks_get (T : List Pt) (j : Nat) : ∀ {i : Nat}, j < i → (tks T i).getD j [] = tkp T j
  | i + 1, h => by
    simp only [tks]
    rw [List.getD_eq_getElem?_getD]
    by_cases e : j < i
    · rw [List.getElem?_append_left (by rw [tks_len]; exact e), ← List.getD_eq_getElem?_getD]
      exact tks_get T j e
    · obtain rfl : j = i := by omega
      rw [List.getElem?_append_right (by rw [tks_len]; omega), tks_len]
      simp
      rfl
/-- A kid's tokens as they stand in a part of this kind. -/
def kdt (T : List Pt) (k : Int) (x : Nat) : List Tok := if brB k (pt T x).kind then km [40] :: (tkp T x ++ [km [41]]) else tkp T x
theorem tkp_eq {T : List Pt} {y : Nat} (h : ∀ x, x ∈ (pt T y).kids → 0 ≤ x ∧ x < (y : Int)) : tkp T y = tkK (pt T y).kind (pt T y).text (pt T y).num ((pt T y).kids.map fun x => kdt T (pt T y).kind x.toNat) := by
  unfold tkp ptk
  congr 1
  apply List.map_congr_left
  intro x hx
  have := h x hx
  unfold kidT kdt
  rw [tks_get T x.toNat (by omega)]
/-- These tokens stand in T from d on. -/
def Kx (T : List Tok) (d : Nat) (l : List Tok) : Prop := ∀ j, j < l.length → kq (tk T (d + j)) = tk l j
theorem kx_cons {T : List Tok} {d : Nat} {t : Tok} {l : List Tok} (h : Kx T d (t :: l)) : kq (tk T d) = t ∧ Kx T (d + 1) l := by
  refine ⟨h 0 (by simp), fun j hj => ?_⟩
  have := h (j + 1) (by simp; omega)
  rw [show d + 1 + j = d + (j + 1) by omega, this]
  rfl
theorem kx_app {T : List Tok} {d : Nat} {l1 l2 : List Tok} (h : Kx T d (l1 ++ l2)) : Kx T d l1 ∧ Kx T (d + l1.length) l2 := by
  refine ⟨fun j hj => ?_, fun j hj => ?_⟩
  · rw [h j (by rw [List.length_append]; omega), tk_l hj]
  · rw [Nat.add_assoc, h (l1.length + j) (by rw [List.length_append]; omega), tk_r]
theorem kx_one {T : List Tok} {d : Nat} {t : Tok} (h : Kx T d [t]) : kq (tk T d) = t := (kx_cons h).1
/-- Is the token at d this mark? -/
def nm (T : List Tok) (d : Nat) (m : List UInt8) : Bool := decide ((tk T d).kind = 4) && decide ((tk T d).text.toList = m)
theorem isM_nm (T : List Tok) (s : PS) (m : List UInt8) : isM T s m = nm T s.nx m := rfl
theorem S_list (m : List UInt8) : (S m).toList = m := by simp [S, ByteArray.toList_eq]
theorem kq_at {T : List Tok} {d : Nat} {k : Nat} {x : ByteArray} {z : Int} (h : kq (tk T d) = ⟨k, x, z, 0, 0⟩) : (tk T d).kind = k ∧ (tk T d).text = x ∧ (tk T d).num = z := by
  have h1 := congrArg Tok.kind h
  have h2 := congrArg Tok.text h
  have h3 := congrArg Tok.num h
  exact ⟨h1, h2, h3⟩
theorem nm_km {T : List Tok} {d : Nat} {m : List UInt8} (h : kq (tk T d) = km m) (m' : List UInt8) : nm T d m' = decide (m = m') := by
  have h1 := kq_at h
  unfold nm
  rw [h1.1, h1.2.1, S_list]
  simp
theorem nm_no {T : List Tok} {d : Nat} (h : (tk T d).kind ≠ 4) (m' : List UInt8) : nm T d m' = false := by
  unfold nm
  rw [decide_eq_false h]
  rfl
/-- With enough strength this is read. -/
def Gd {α : Type} (p : Nat → PRes α) (a : α) (d ns : Nat) (ps : List Pt) : Prop := ∃ N os, ∀ n, N ≤ n → p n = .ok (a, ⟨d, ns, ps, os⟩)
theorem gd_const {α : Type} {p : Nat → PRes α} {a : α} {d ns : Nat} {ps : List Pt} (os : List Int) (h : ∀ n, p n = .ok (a, ⟨d, ns, ps, os⟩)) : Gd p a d ns ps := ⟨0, os, fun n _ => h n⟩
theorem gd_bnd {α β : Type} {p : Nat → PRes α} {f : Nat → α → PS → PRes β} {a : α} {b : β} {d ns d' ns' : Nat} {ps ps' : List Pt} (h : Gd p a d ns ps) (h2 : ∀ os, Gd (fun n => f n a ⟨d, ns, ps, os⟩) b d' ns' ps') : Gd (fun n => bnd (p n) (f n)) b d' ns' ps' := by
  obtain ⟨N, os, h1⟩ := h
  obtain ⟨M, os', h3⟩ := h2 os
  refine ⟨max N M, os', fun n hn => ?_⟩
  show bnd (p n) (f n) = _
  rw [h1 n (by omega), bnd_ok]
  exact h3 n (by omega)
theorem gd_eq {α : Type} {p q : Nat → PRes α} {a : α} {d ns : Nat} {ps : List Pt} (h : Gd q a d ns ps) (e : ∀ n, p n = q n) : Gd p a d ns ps := by
  obtain ⟨N, os, h⟩ := h
  exact ⟨N, os, fun n hn => by rw [e]; exact h n hn⟩
theorem gd_up {α : Type} {p q : Nat → PRes α} {a : α} {d ns : Nat} {ps : List Pt} (h : Gd q a d ns ps) (e : ∀ n, p (n + 1) = q n) : Gd p a d ns ps := by
  obtain ⟨N, os, h⟩ := h
  refine ⟨N + 1, os, fun n hn => ?_⟩
  obtain ⟨m, rfl⟩ : ∃ m, n = m + 1 := ⟨n - 1, by omega⟩
  rw [e]
  exact h m (by omega)
theorem gd_conj {T : List Tok} {s : PS} {y : Int} {d ns : Nat} {ps : List Pt} (h : Gd (fun n => gr T n .unit s) y d ns ps) (hm : nm T d [38, 38] = false) : Gd (fun n => gr T n .conj s) y d ns ps := by
  obtain ⟨N, os, h⟩ := h
  refine gd_up (q := fun n => rowP T (gr T n .unit) 4 [38, 38] s) ⟨N, os, fun n hn => row_one (h n hn) hm⟩ (fun n => rfl)
theorem gd_expr {T : List Tok} {s : PS} {y : Int} {d ns : Nat} {ps : List Pt} (h : Gd (fun n => gr T n .conj s) y d ns ps) (hm : nm T d [124, 124] = false) : Gd (fun n => gr T n .expr s) y d ns ps := by
  obtain ⟨N, os, h⟩ := h
  refine gd_up (q := fun n => rowP T (gr T n .conj) 5 [124, 124] s) ⟨N, os, fun n hn => row_one (h n hn) hm⟩ (fun n => rfl)
theorem take_put {T : List Pt} {y : Nat} (h : y < T.length) : T.take y ++ [pt T y] = T.take (y + 1) := by
  rw [List.take_add_one]
  unfold pt
  rw [List.getD_eq_getElem?_getD, List.getElem?_eq_getElem h]
  rfl
/-- A part is put down. -/
theorem gd_put {T : List Pt} {y : Nat} (h : y < T.length) {p : Pt} (hp : p = pt T y) (d ns : Nat) (os : List Int) (x : Int) : Gd (fun _ => putP ⟨d, ns, T.take y, os⟩ p x) (y : Int) d ns (T.take (y + 1)) := by
  refine gd_const (os ++ [x]) fun n => ?_
  unfold putP
  simp only
  rw [hp, take_put h, List.length_take, show min y T.length = y by omega]
theorem gd_mark {T : List Tok} {d ns : Nat} {ps : List Pt} {os : List Int} {m : List UInt8} (h : kq (tk T d) = km m) : Gd (fun _ => markP T ⟨d, ns, ps, os⟩ m) () (d + 1) ns ps := by
  refine gd_const os fun n => ?_
  unfold markP
  rw [isM_nm, nm_km h, if_pos (by simp)]
  rfl
theorem gd_open {T : List Tok} {d ns : Nat} {ps : List Pt} {os : List Int} {m : List UInt8} (h : kq (tk T d) = km m) (hn : ns < 32) : Gd (fun _ => openP T ⟨d, ns, ps, os⟩ m) () (d + 1) (ns + 1) ps := by
  refine gd_const os fun n => ?_
  unfold openP
  rw [isM_nm, nm_km h, if_pos (by simp), if_neg (show ¬ ns = 32 by omega)]
  rfl
theorem gd_text {T : List Tok} {d ns : Nat} {ps : List Pt} {os : List Int} {x : ByteArray} (h : kq (tk T d) = kt x) : Gd (fun _ => textP T ⟨d, ns, ps, os⟩) x (d + 1) ns ps := by
  refine gd_const os fun n => ?_
  have h1 := kq_at h
  unfold textP
  show (if (tk T d).kind = 1 then _ else _) = _
  rw [h1.1, if_pos rfl]
  show Except.ok ((tk T d).text, _) = _
  rw [h1.2.1]
  rfl
theorem gd_ok {α : Type} (a : α) (d ns : Nat) (ps : List Pt) (os : List Int) : Gd (fun _ => (.ok (a, ⟨d, ns, ps, os⟩) : PRes α)) a d ns ps := gd_const os fun _ => rfl
theorem gd_named {T : List Tok} {d ns : Nat} {ps : List Pt} {os : List Int} {x : ByteArray} (h : Kx T d [km [40], kt x, km [41]]) : Gd (fun _ => namedP T ⟨d, ns, ps, os⟩) x (d + 3) ns ps := by
  obtain ⟨h0, h⟩ := kx_cons h
  obtain ⟨h1, h⟩ := kx_cons h
  have h2 := kx_one h
  exact gd_bnd (gd_mark h0) fun os1 => gd_bnd (gd_text h1) fun os2 => gd_bnd (gd_mark h2) fun os3 => gd_ok x _ _ _ os3
theorem gd_with {α : Type} {T : List Tok} {inn : Nat → PS → PRes α} {a : α} {d d' ns : Nat} {ps ps' : List Pt} {os : List Int} (h0 : kq (tk T d) = km [40]) (hn : ns < 32) (h1 : ∀ os, Gd (fun n => inn n ⟨d + 1, ns + 1, ps, os⟩) a d' (ns + 1) ps') (h2 : kq (tk T d') = km [41]) : Gd (fun n => withP T (inn n) ⟨d, ns, ps, os⟩) a (d' + 1) ns ps' :=
  gd_bnd (f := fun n _ s1 => bnd (inn n s1) fun k s2 => bnd (markP T s2 [41]) fun _ s3 => .ok (k, shutP s3)) (gd_open h0 hn) fun os1 => gd_bnd (f := fun n k s2 => bnd (markP T s2 [41]) fun _ s3 => .ok (k, shutP s3)) (h1 os1) fun os2 => gd_bnd (f := fun n _ s3 => .ok (a, shutP s3)) (gd_mark h2) fun os3 => gd_ok a _ _ _ os3
end Go.Proofs.YtlhlpamciafocaaGreatDoor.L
namespace Go.Proofs.YtlhlpamciafocaaGreatDoor.L
open Go.RowKit Go.Shelf
set_option linter.unusedVariables false
set_option linter.unusedSimpArgs false
theorem tl_nil {x : ByteArray} (h : x.toList = []) : x = ⟨#[]⟩ := by
  apply ByteArray.ext
  rw [ByteArray.toList_eq] at h
  exact Array.toList_inj.1 (by simpa using h)
/-- A token with which a term begins. -/
def Ht (t : Tok) : Prop := t.kind = 1 ∨ t.kind = 2 ∨ (t.kind = 4 ∧ t.text.toList = [123]) ∨ (t.kind = 3 ∧ t.text.toList ≠ [116, 114, 117, 101] ∧ t.text.toList ≠ [102, 97, 108, 115, 101] ∧ t.text.toList ≠ [110, 101, 97, 114] ∧ t.text.toList ≠ [97, 112, 97, 114, 116] ∧ t.text.toList ≠ [116, 111, 108, 101, 114, 97, 116, 101, 100])
section
variable {T : List Tok} {d ns : Nat} {ps : List Pt} {os : List Int}
theorem unit_atom (n : Nat) (h1 : nm T d [33] = false) (h2 : nm T d [40] = false) : gr T (n + 1) .unit ⟨d, ns, ps, os⟩ = atomP T (gr T n .expr) (gr T n .term) ⟨d, ns, ps, os⟩ := by
  show unitP T (gr T n .expr) (gr T n .unit) (gr T n .term) ⟨d, ns, ps, os⟩ = _
  unfold unitP
  rw [isM_nm, isM_nm]
  show (if nm T d [33] = true then _ else if nm T d [40] = true then _ else _) = _
  rw [h1, h2]
  rfl
theorem unit_comp (n : Nat) (h : Ht (tk T d)) : gr T (n + 1) .unit ⟨d, ns, ps, os⟩ = compP T (gr T n .term) ⟨d, ns, ps, os⟩ := by
  have hm : nm T d [33] = false ∧ nm T d [40] = false := by
    rcases h with h | h | ⟨h, h'⟩ | ⟨h, _⟩
    · exact ⟨nm_no (by rw [h]; decide) _, nm_no (by rw [h]; decide) _⟩
    · exact ⟨nm_no (by rw [h]; decide) _, nm_no (by rw [h]; decide) _⟩
    · unfold nm
      rw [h']
      simp
    · exact ⟨nm_no (by rw [h]; decide) _, nm_no (by rw [h]; decide) _⟩
  rw [unit_atom n hm.1 hm.2]
  unfold atomP
  show (if (tk T d).kind = 3 then (if (tk T d).text.toList = _ then _ else if (tk T d).text.toList = _ then _ else if (tk T d).text.toList = _ then _ else if (tk T d).text.toList = _ then _ else if (tk T d).text.toList = _ then _ else _) else _) = _
  rcases h with h | h | ⟨h, h'⟩ | ⟨h, a1, a2, a3, a4, a5⟩
  · rw [if_neg (by rw [h]; decide)]
  · rw [if_neg (by rw [h]; decide)]
  · rw [if_neg (by rw [h]; decide)]
  · rw [if_pos h, if_neg a1, if_neg a2, if_neg a3, if_neg a4, if_neg a5]
theorem term_el (n : Nat) (h : isEl (tk T d) = true) : gr T (n + 1) .term ⟨d, ns, ps, os⟩ = elP T ⟨d, ns, ps, os⟩ := by
  show (if isEl (tk T d) = true then _ else _) = _
  rw [if_pos h]
theorem term_set (n : Nat) (h : kq (tk T d) = km [123]) : gr T (n + 1) .term ⟨d, ns, ps, os⟩ = setP T ⟨d, ns, ps, os⟩ := by
  have h1 := kq_at h
  show (if isEl (tk T d) = true then _ else if isM T ⟨d, ns, ps, os⟩ [123] = true then _ else _) = _
  rw [if_neg (by unfold isEl; rw [h1.1]; decide), isM_nm]
  show (if nm T d [123] = true then _ else _) = _
  rw [nm_km h, if_pos (by simp)]
theorem term_word (n : Nat) {m : List UInt8} (h : kq (tk T d) = kw m) : gr T (n + 1) .term ⟨d, ns, ps, os⟩ = wordP T (gr T n .expr) (gr T n .term) ⟨d, ns, ps, os⟩ := by
  have h1 := kq_at h
  show (if isEl (tk T d) = true then _ else if isM T ⟨d, ns, ps, os⟩ [123] = true then _ else if (tk T d).kind = 3 then _ else _) = _
  rw [if_neg (by unfold isEl; rw [h1.1]; decide), isM_nm]
  show (if nm T d [123] = true then _ else _) = _
  rw [nm_no (by rw [h1.1]; decide), if_neg (by decide), if_pos h1.1]
theorem el_11 {P : List Pt} {y : Nat} (hy : y < P.length) {x : ByteArray} (hp : pt P y = ⟨11, x, 0, []⟩) (h : kq (tk T d) = kt x) : Gd (fun _ => elP T ⟨d, ns, P.take y, os⟩) (y : Int) (d + 1) ns (P.take (y + 1)) := by
  have h1 := kq_at h
  refine gd_eq (gd_put hy (p := ⟨11, x, 0, []⟩) hp.symm (d + 1) ns os ((tk T d).a : Int)) fun n => ?_
  show (if (tk T d).kind = 1 then putP _ ⟨11, (tk T d).text, 0, []⟩ _ else _) = _
  rw [if_pos h1.1, h1.2.1]
  rfl
theorem el_12 {P : List Pt} {y : Nat} (hy : y < P.length) {z : Int} (hp : pt P y = ⟨12, ⟨#[]⟩, z, []⟩) (h : kq (tk T d) = kn z) : Gd (fun _ => elP T ⟨d, ns, P.take y, os⟩) (y : Int) (d + 1) ns (P.take (y + 1)) := by
  have h1 := kq_at h
  refine gd_eq (gd_put hy (p := ⟨12, ⟨#[]⟩, z, []⟩) hp.symm (d + 1) ns os ((tk T d).a : Int)) fun n => ?_
  show (if (tk T d).kind = 1 then _ else putP _ ⟨12, ⟨#[]⟩, (tk T d).num, []⟩ _) = _
  rw [if_neg (by rw [h1.1]; decide), h1.2.2]
  rfl
theorem rd_11 {P : List Pt} {y : Nat} (hy : y < P.length) {x : ByteArray} (hp : pt P y = ⟨11, x, 0, []⟩) (h : kq (tk T d) = kt x) : Gd (fun n => gr T n .term ⟨d, ns, P.take y, os⟩) (y : Int) (d + 1) ns (P.take (y + 1)) :=
  gd_up (el_11 hy hp h) fun n => term_el n (by have h1 := kq_at h; unfold isEl; rw [h1.1]; decide)
theorem rd_12 {P : List Pt} {y : Nat} (hy : y < P.length) {z : Int} (hp : pt P y = ⟨12, ⟨#[]⟩, z, []⟩) (h : kq (tk T d) = kn z) : Gd (fun n => gr T n .term ⟨d, ns, P.take y, os⟩) (y : Int) (d + 1) ns (P.take (y + 1)) :=
  gd_up (el_12 hy hp h) fun n => term_el n (by have h1 := kq_at h; unfold isEl; rw [h1.1]; decide)
theorem who_w (n : Nat) {z : Int} (hz : z = 1 ∨ z = 2 ∨ z = 3) (h : kq (tk T d) = kw (whoL z)) : gr T (n + 1) .term ⟨d, ns, ps, os⟩ = whoP T ⟨d, ns, ps, os⟩ z := by
  rw [term_word n h]
  have h1 := kq_at h
  have ht : (tk T d).text.toList = whoL z := by rw [h1.2.1, S_list]
  show (if (tk T d).text.toList = _ then _ else if (tk T d).text.toList = _ then _ else if (tk T d).text.toList = _ then _ else _) = _
  rw [ht]
  rcases hz with rfl | rfl | rfl
  · rw [if_neg (by decide), if_pos (by decide)]
  · rw [if_pos (by decide)]
  · rw [if_neg (by decide), if_neg (by decide), if_pos (by decide)]
theorem rd_14 {P : List Pt} {y : Nat} (hy : y < P.length) {x : ByteArray} {z : Int} (hz : z = 1 ∨ z = 2 ∨ z = 3) (hp : pt P y = ⟨14, x, z, []⟩) (h : Kx T d [kw (whoL z), km [91], kt x, km [93]]) : Gd (fun n => gr T n .term ⟨d, ns, P.take y, os⟩) (y : Int) (d + 4) ns (P.take (y + 1)) := by
  obtain ⟨h0, h⟩ := kx_cons h
  obtain ⟨h1, h⟩ := kx_cons h
  obtain ⟨h2, h⟩ := kx_cons h
  have h3 := kx_one h
  refine gd_up (q := fun n => whoP T ⟨d, ns, P.take y, os⟩ z) ?_ (fun n => who_w n hz h0)
  refine gd_eq (q := fun n => bnd (textP T ⟨d + 1 + 1, ns, P.take y, os⟩) fun t s1 => bnd (markP T s1 [93]) fun _ s2 => putP s2 ⟨14, t, z, []⟩ ((tk T d).a : Int)) ?_ fun n => ?_
  · exact gd_bnd (gd_text h2) fun os1 => gd_bnd (gd_mark h3) fun os2 => gd_put hy hp.symm _ _ _ _
  · show (if nm T (d + 1) [91] = true then _ else _) = _
    rw [nm_km h1, if_pos (by simp)]
    rfl
theorem fld_at {k : Int} {m : List UInt8} (h : kq (tk T d) = kw m) (hk : (m = [110, 97, 109, 101] ∧ k = 15) ∨ (m = [107, 101, 121, 115] ∧ k = 16) ∨ (m = [116, 97, 105, 110, 116, 115] ∧ k = 17) ∨ (m = [99, 97, 112] ∧ k = 18)) : Gd (fun _ => fieldP T ⟨d, ns, ps, os⟩) k (d + 1) ns ps := by
  have h1 := kq_at h
  have ht : (tk T d).text.toList = m := by rw [h1.2.1, S_list]
  have e : fieldO (tk T d) = k := by
    unfold fieldO
    rw [if_pos h1.1, ht]
    rcases hk with ⟨rfl, rfl⟩ | ⟨rfl, rfl⟩ | ⟨rfl, rfl⟩ | ⟨rfl, rfl⟩
    · rw [if_pos rfl]
    · rw [if_neg (by decide), if_pos rfl]
    · rw [if_neg (by decide), if_neg (by decide), if_pos rfl]
    · rw [if_neg (by decide), if_neg (by decide), if_neg (by decide), if_pos rfl]
  refine gd_const os fun n => ?_
  unfold fieldP
  show (if fieldO (tk T d) = 0 then _ else Except.ok (fieldO (tk T d), _)) = _
  rw [e, if_neg (by rcases hk with ⟨_, rfl⟩ | ⟨_, rfl⟩ | ⟨_, rfl⟩ | ⟨_, rfl⟩ <;> decide)]
  rfl
theorem rd_15 {P : List Pt} {y : Nat} (hy : y < P.length) {z k : Int} {m : List UInt8} (hz : z = 1 ∨ z = 2 ∨ z = 3) (hk : (m = [110, 97, 109, 101] ∧ k = 15) ∨ (m = [107, 101, 121, 115] ∧ k = 16) ∨ (m = [116, 97, 105, 110, 116, 115] ∧ k = 17)) (hp : pt P y = ⟨k, ⟨#[]⟩, z, []⟩) (h : Kx T d [kw (whoL z), km [46], kw m]) : Gd (fun n => gr T n .term ⟨d, ns, P.take y, os⟩) (y : Int) (d + 3) ns (P.take (y + 1)) := by
  obtain ⟨h0, h⟩ := kx_cons h
  obtain ⟨h1, h⟩ := kx_cons h
  have h2 := kx_one h
  refine gd_up (q := fun n => whoP T ⟨d, ns, P.take y, os⟩ z) ?_ (fun n => who_w n hz h0)
  refine gd_eq (q := fun n => bnd (markP T ⟨d + 1, ns, P.take y, os⟩ [46]) fun _ s1 => bnd (fieldP T s1) fun k s2 => if k = 18 then bnd (namedP T s2) fun t s3 => putP s3 ⟨18, t, z, []⟩ ((tk T d).a : Int) else putP s2 ⟨k, ⟨#[]⟩, z, []⟩ ((tk T d).a : Int)) ?_ fun n => ?_
  · refine gd_bnd (gd_mark h1) fun os1 => gd_bnd (fld_at h2 (k := k) (by rcases hk with h | h | h; exact .inl h; exact .inr (.inl h); exact .inr (.inr (.inl h)))) fun os2 => ?_
    refine gd_eq (gd_put hy hp.symm (d + 1 + 1 + 1) ns os2 ((tk T d).a : Int)) fun n => ?_
    rw [if_neg (by rcases hk with ⟨_, rfl⟩ | ⟨_, rfl⟩ | ⟨_, rfl⟩ <;> decide)]
  · show (if nm T (d + 1) [91] = true then _ else _) = _
    rw [nm_km h1, if_neg (by decide)]
    rfl
theorem rd_18 {P : List Pt} {y : Nat} (hy : y < P.length) {x : ByteArray} {z : Int} (hz : z = 1 ∨ z = 2 ∨ z = 3) (hp : pt P y = ⟨18, x, z, []⟩) (h : Kx T d [kw (whoL z), km [46], kw [99, 97, 112], km [40], kt x, km [41]]) : Gd (fun n => gr T n .term ⟨d, ns, P.take y, os⟩) (y : Int) (d + 6) ns (P.take (y + 1)) := by
  obtain ⟨h0, h⟩ := kx_cons h
  obtain ⟨h1, h⟩ := kx_cons h
  obtain ⟨h2, h⟩ := kx_cons h
  refine gd_up (q := fun n => whoP T ⟨d, ns, P.take y, os⟩ z) ?_ (fun n => who_w n hz h0)
  refine gd_eq (q := fun n => bnd (markP T ⟨d + 1, ns, P.take y, os⟩ [46]) fun _ s1 => bnd (fieldP T s1) fun k s2 => if k = 18 then bnd (namedP T s2) fun t s3 => putP s3 ⟨18, t, z, []⟩ ((tk T d).a : Int) else putP s2 ⟨k, ⟨#[]⟩, z, []⟩ ((tk T d).a : Int)) ?_ fun n => ?_
  · refine gd_bnd (gd_mark h1) fun os1 => gd_bnd (fld_at h2 (k := 18) (.inr (.inr (.inr ⟨rfl, rfl⟩)))) fun os2 => ?_
    refine gd_eq (q := fun n => bnd (namedP T ⟨d + 1 + 1 + 1, ns, P.take y, os2⟩) fun t s3 => putP s3 ⟨18, t, z, []⟩ ((tk T d).a : Int)) (gd_bnd (gd_named h) fun os3 => gd_put hy hp.symm _ _ _ _) fun n => ?_
    rw [if_pos rfl]
  · show (if nm T (d + 1) [91] = true then _ else _) = _
    rw [nm_km h1, if_neg (by decide)]
    rfl
theorem unit_word (n : Nat) {m : List UInt8} (h : kq (tk T d) = kw m) : gr T (n + 1) .unit ⟨d, ns, ps, os⟩ = atomP T (gr T n .expr) (gr T n .term) ⟨d, ns, ps, os⟩ := by
  have h1 := kq_at h
  exact unit_atom n (nm_no (by rw [h1.1]; decide) _) (nm_no (by rw [h1.1]; decide) _)
theorem atom_w {m : List UInt8} (h : kq (tk T d) = kw m) (ex te : PS → PRes Int) : atomP T ex te ⟨d, ns, ps, os⟩ = (if m = [116, 114, 117, 101] then constP T ⟨d, ns, ps, os⟩ 1 else if m = [102, 97, 108, 115, 101] then constP T ⟨d, ns, ps, os⟩ 2 else if m = [110, 101, 97, 114] then selP T ex 8 ⟨d, ns, ps, os⟩ else if m = [97, 112, 97, 114, 116] then selP T ex 9 ⟨d, ns, ps, os⟩ else if m = [116, 111, 108, 101, 114, 97, 116, 101, 100] then tolP T ⟨d, ns, ps, os⟩ else compP T te ⟨d, ns, ps, os⟩) := by
  have h1 := kq_at h
  have ht : (tk T d).text.toList = m := by rw [h1.2.1, S_list]
  unfold atomP
  show (if (tk T d).kind = 3 then (if (tk T d).text.toList = _ then _ else if (tk T d).text.toList = _ then _ else if (tk T d).text.toList = _ then _ else if (tk T d).text.toList = _ then _ else if (tk T d).text.toList = _ then _ else _) else _) = _
  rw [if_pos h1.1, ht]
theorem rd_1 {P : List Pt} {y : Nat} (hy : y < P.length) {k : Int} {m : List UInt8} (hk : (k = 1 ∧ m = [116, 114, 117, 101]) ∨ (k = 2 ∧ m = [102, 97, 108, 115, 101])) (hp : pt P y = ⟨k, ⟨#[]⟩, 0, []⟩) (h : kq (tk T d) = kw m) : Gd (fun n => gr T n .unit ⟨d, ns, P.take y, os⟩) (y : Int) (d + 1) ns (P.take (y + 1)) := by
  refine gd_up (gd_put hy hp.symm (d + 1) ns os ((tk T d).a : Int)) fun n => ?_
  rw [unit_word n h, atom_w h]
  rcases hk with ⟨rfl, rfl⟩ | ⟨rfl, rfl⟩
  · rw [if_pos rfl]; rfl
  · rw [if_neg (by decide), if_pos rfl]; rfl
theorem rd_10 {P : List Pt} {y : Nat} (hy : y < P.length) {x : ByteArray} (hp : pt P y = ⟨10, x, 0, []⟩) (h : Kx T d [kw [116, 111, 108, 101, 114, 97, 116, 101, 100], km [40], kt x, km [41]]) : Gd (fun n => gr T n .unit ⟨d, ns, P.take y, os⟩) (y : Int) (d + 4) ns (P.take (y + 1)) := by
  obtain ⟨h0, h⟩ := kx_cons h
  refine gd_up (q := fun n => bnd (namedP T ⟨d + 1, ns, P.take y, os⟩) fun t s1 => putP s1 ⟨10, t, 0, []⟩ ((tk T d).a : Int)) (gd_bnd (gd_named h) fun os1 => gd_put hy hp.symm _ _ _ _) fun n => ?_
  rw [unit_word n h0, atom_w h0, if_neg (by decide), if_neg (by decide), if_neg (by decide), if_neg (by decide), if_pos rfl]
  rfl
end
end Go.Proofs.YtlhlpamciafocaaGreatDoor.L
