import Derived.Test.YtlhlpamciafocaaGreatDoorMgAW
namespace Go.Proofs.YtlhlpamciafocaaGreatDoor.L
open Go.RowKit Go.Shelf
set_option linter.unusedVariables false
set_option linter.unusedSimpArgs false
theorem tk_kq (l : List Tok) (j : Nat) (h : j < l.length) : tk (l.map kq) j = kq (tk l j) := tk_map h
/-- THERE AND BACK: the text of a valid tree reads as that tree. -/
theorem reads_back {P : List Pt} (h1 : 1 ≤ P.length) (hL : P.length ≤ 1000) (hok : Ok0 P) (hl : ¬ Lst P) (hd : NoDeep P) (hn0 : (nests P).getD (P.length - 1) 0 = 0) (ht : ((txs P P.length).getD (P.length - 1) []).length ≤ 4096) :
    ∃ s, parR (S ((txs P P.length).getD (P.length - 1) [])) = .ok s ∧ s.ps = P := by
  obtain ⟨y, hy⟩ : ∃ y, y = P.length - 1 := ⟨_, rfl⟩
  have hyl : y < P.length := by omega
  have hyP : P.length = y + 1 := by omega
  rw [← hy] at hn0 ht ⊢
  have et : (txs P P.length).getD y [] = txp P y := getD_txs P hyl
  rw [et] at ht ⊢
  have hk : (pt P y).kind ≤ 10 := by
    unfold Lst at hl
    rw [← hy] at hl
    omega
  have hf1 : (fre P P.length).length ≤ 1 := by
    unfold Lst at hl
    omega
  have hc : Chn P 0 (pt P y).kids y := by
    have h9 := chn_fre hok P.length (Nat.le_refl _)
    have e : fre P P.length = (fre P y).take ((fre P y).length - (pt P y).kids.length) ++ [(y : Int)] := by rw [hyP]; rfl
    rw [e] at h9 hf1
    have hnil : (fre P y).take ((fre P y).length - (pt P y).kids.length) = [] := by
      rw [List.length_append, List.length_singleton] at hf1
      exact List.length_eq_zero_iff.1 (by omega)
    rw [hnil, List.nil_append] at h9
    generalize hv : (y : Int) = v at h9
    cases h9 with
    | @cons _ y' _ _ c1 c2 =>
      have e2 : y' = y := by omega
      subst e2
      exact c1
  have hz : (S (txp P y)).size = (txp P y).length := S_size _
  have hst : Stands (S (txp P y)) 0 (txp P y) := ⟨by rw [hz]; omega, fun j hj => by rw [Nat.zero_add]; rfl⟩
  have hsp : Stp (S (txp P y)) (0 + (txp P y).length) := stp_of (bt_out _ _ (by rw [hz]; omega)) (by decide)
  obtain ⟨l, hs, hm⟩ := (sb_all hok y hyl).2 _ 0 hst hsp
  have hT := sc_end hs (by rw [hz]; omega) (by rw [hz]; exact ht)
  have hlen : l.length = (tkp P y).length := by rw [← hm, List.length_map]
  have hkx : Kx (l ++ [tokE (S (txp P y)).size]) 0 (tkp P y) := fun j hj => by
    rw [Nat.zero_add, tk_l (by omega), ← hm, tk_kq l j (by omega)]
  have hend : tk (l ++ [tokE (S (txp P y)).size]) (0 + (tkp P y).length) = tokE (S (txp P y)).size := by rw [Nat.zero_add, ← hlen, tk_last]
  have hnm : ∀ m, nm (l ++ [tokE (S (txp P y)).size]) (0 + (tkp P y).length) m = false := fun m => nm_no (by rw [hend]; exact Nat.zero_ne_add_one 3) m
  obtain ⟨N, os, hg⟩ := expr_of (T := l ++ [tokE (S (txp P y)).size]) (a := 0) (d := 0) (ns := 0) (os := []) (rb_all hok hd hL y hyl) hk hc hkx (by rw [hn0]; rfl) (hnm _) (hnm _)
  have hTl : (l ++ [tokE (S (txp P y)).size]).length ≤ 4097 := by
    have h9 := scan_len (S (txp P y)) _ 0 rfl (Nat.zero_le _)
    have e : scanT (S (txp P y)) = scanS (S (txp P y)) 0 := by unfold scanT; exact if_pos (by rw [hz]; exact ht)
    rw [← e, hT] at h9
    simp only at h9
    omega
  have hgr : gr (l ++ [tokE (S (txp P y)).size]) 16392 .expr ⟨0, 0, [], []⟩ = .ok ((y : Int), ⟨0 + (tkp P y).length, 0, P.take (y + 1), os⟩) := by
    have h9 := hg (max N 16392) (by omega)
    have e9 := gr_less (T := l ++ [tokE (S (txp P y)).size]) (g := .expr) (s := ⟨0, 0, [], []⟩) (n := 16392) (m := max N 16392) (by show 4 * ((l ++ [tokE (S (txp P y)).size]).length - 0) + 3 < 16392; omega) (by omega)
    exact e9.symm.trans h9
  have htk : P.take (y + 1) = P := by rw [← hyP]; exact List.take_length
  rw [htk] at hgr
  refine ⟨⟨0 + (tkp P y).length, 0, P, os⟩, ?_, rfl⟩
  unfold parR
  rw [hT]
  simp only
  unfold wholeP
  rw [hgr, bnd_ok]
  simp only
  rw [hend, if_pos (show (tokE (S (txp P y)).size).kind = 0 from rfl), if_neg (by omega)]
end Go.Proofs.YtlhlpamciafocaaGreatDoor.L
namespace Go.Proofs.YtlhlpamciafocaaGreatDoor.L
open Go.RowKit Go.Shelf
set_option linter.unusedVariables false
theorem nest_root {P : List Pt} (hok : Ok0 P) (h1 : 1 ≤ P.length) : (nests P).getD (P.length - 1) 0 = 0 := by
  unfold nests
  rw [nsts_at hok P.length _ (P.length - 1) (Nat.le_refl _) (by simp) (fun k hk h9 => by have := (hok k hk).lt h9; omega)]
  rw [List.getD_eq_getElem?_getD, List.getElem?_replicate]
  split <;> rfl
/-- The text of a valid tree, if it is short enough, reads as that tree. -/
theorem reads_res {P : List Pt} (h : Res P 0 0) (hs : Shrt P P.length) : ∃ s, parR (S ((txs P P.length).getD (P.length - 1) [])) = .ok s ∧ s.ps = P := by
  rcases h with ⟨_, h, _⟩ | ⟨_, h, _⟩ | ⟨h1, h2, ⟨_, h⟩ | ⟨_, _, h, _⟩ | ⟨hok, hl, ⟨_, h⟩ | ⟨hd, _, _⟩⟩⟩
  · exact absurd h (by decide)
  · exact absurd h (by decide)
  · exact absurd h (by decide)
  · exact absurd h (by decide)
  · exact absurd h (by decide)
  · exact reads_back h1 h2 hok hl hd (nest_root hok h1) (hs _ (by omega))
end Go.Proofs.YtlhlpamciafocaaGreatDoor.L
namespace Go.Proofs.YtlhlpamciafocaaGreatDoor.L
open Go.RowKit Go.Shelf
set_option linter.unusedVariables false
set_option linter.unusedSimpArgs false
/-- What stands in y nests at most h deeper than y. -/
inductive Hg (P : List Pt) : Nat → Nat → Prop
  | mk {y h : Nat} (f : Nat → Nat) : (∀ x : Nat, (x : Int) ∈ (pt P y).kids → btw (pt P y).kind (pt P x).kind + (f x : Int) ≤ (h : Int)) → (∀ x : Nat, (x : Int) ∈ (pt P y).kids → Hg P x (f x)) → Hg P y h
def HgE (ps : List Pt) (y h : Nat) : Prop := ∀ Q, Hg (ps ++ Q) y h
theorem HgE.ext {ps : List Pt} {y h : Nat} (H : HgE ps y h) (Q : List Pt) : HgE (ps ++ Q) y h := fun R => by rw [List.append_assoc]; exact H _
/-- What the table says of each part. -/
def Tb (ps : List Pt) : Prop := ∀ j, j < ps.length → kidsB (pt ps j).kind (pt ps j).kids.length = true ∧ 1 ≤ (pt ps j).kind ∧ (pt ps j).kind ≤ 20 ∧ holdsB (pt ps j).kind (pt ps j).text (pt ps j).num = true ∧ ∀ x, x ∈ (pt ps j).kids → 0 ≤ x ∧ x < (j : Int) ∧ clsB (pt ps j).kind (pt ps x.toNat).kind = true
theorem pt_in {A B : List Pt} {j : Nat} (h : j < A.length) : pt (A ++ B) j = pt A j := by
  unfold pt
  rw [List.getD_eq_getElem?_getD, List.getD_eq_getElem?_getD, List.getElem?_append_left h]
theorem pt_end (A : List Pt) (p : Pt) (B : List Pt) : pt (A ++ [p] ++ B) A.length = p := by
  rw [pt_in (by simp)]
  unfold pt
  rw [List.getD_eq_getElem?_getD, List.getElem?_append_right (Nat.le_refl _), Nat.sub_self]
  rfl
/-- How much more a part of this kind needs where it stands as this. -/
def exG (g : Gr) (k : Int) : Nat :=
  match g with
  | .unit => if k = 4 ∨ k = 5 then 1 else 0
  | .conj => if k = 5 then 1 else 0
  | _ => 0
def clG (g : Gr) (k : Int) : Prop :=
  match g with
  | .term => 11 ≤ k ∧ k ≤ 20
  | _ => 1 ≤ k ∧ k ≤ 10
/-- What is known of a part that was read. -/
structure Vy (g : Gr) (ns : Nat) (s s' : PS) (k : Int) (y : Nat) : Prop where
  eq : k = (y : Int)
  lt : y < s'.ps.length
  ext : ∃ Q, s'.ps = s.ps ++ Q
  tb : Tb s'.ps
  cl : clG g (pt s'.ps y).kind
  hg : ∃ h, HgE s'.ps y h ∧ ns + h + exG g (pt s'.ps y).kind ≤ 32
def Vg (g : Gr) (r : PS → PRes Int) : Prop := ∀ s k s', Tb s.ps → s.ns ≤ 32 → r s = .ok (k, s') → ∃ y, Vy g s.ns s s' k y
/-- One part more. -/
theorem put_tb {ps : List Pt} {p : Pt} (h : Tb ps) (h1 : kidsB p.kind p.kids.length = true ∧ 1 ≤ p.kind ∧ p.kind ≤ 20 ∧ holdsB p.kind p.text p.num = true) (h2 : ∀ x, x ∈ p.kids → 0 ≤ x ∧ x < (ps.length : Int) ∧ clsB p.kind (pt ps x.toNat).kind = true) : Tb (ps ++ [p]) := by
  intro j hj
  rw [List.length_append, List.length_singleton] at hj
  by_cases e : j < ps.length
  · rw [pt_in e]
    obtain ⟨a, b, c, d, f⟩ := h j e
    exact ⟨a, b, c, d, fun x hx => by obtain ⟨q1, q2, q3⟩ := f x hx; exact ⟨q1, q2, by rw [pt_in (by omega)]; exact q3⟩⟩
  · obtain rfl : j = ps.length := by omega
    have e2 := pt_end ps p []
    rw [List.append_nil] at e2
    rw [e2]
    exact ⟨h1.1, h1.2.1, h1.2.2.1, h1.2.2.2, fun x hx => by obtain ⟨q1, q2, q3⟩ := h2 x hx; exact ⟨q1, q2, by rw [pt_in (by omega)]; exact q3⟩⟩
theorem put_hg {ps : List Pt} {p : Pt} {h : Nat} (f : Nat → Nat) (h1 : ∀ x : Nat, (x : Int) ∈ p.kids → x < ps.length ∧ btw p.kind (pt ps x).kind + (f x : Int) ≤ (h : Int) ∧ HgE ps x (f x)) : HgE (ps ++ [p]) ps.length h := by
  intro Q
  have e := pt_end ps p Q
  refine .mk f (fun x hx => ?_) (fun x hx => ?_)
  · rw [e] at hx ⊢
    obtain ⟨q1, q2, _⟩ := h1 x hx
    rw [List.append_assoc, pt_in q1]
    exact q2
  · rw [e] at hx
    rw [List.append_assoc]
    exact (h1 x hx).2.2 _
/-- A part without kids. -/
theorem leaf_v {g : Gr} {s s0 s' : PS} {p : Pt} {x k : Int} (e : putP s p x = .ok (k, s')) (hp : s.ps = s0.ps) (hn : s0.ns ≤ 32) (h : Tb s0.ps) (hk : p.kids = []) (h1 : kidsB p.kind 0 = true ∧ 1 ≤ p.kind ∧ p.kind ≤ 20 ∧ holdsB p.kind p.text p.num = true) (hc : clG g p.kind) (hx : exG g p.kind = 0) : ∃ y, Vy g s0.ns s0 s' k y := by
  unfold putP at e
  injection e with e
  injection e with e1 e2
  subst e2
  have e9 := pt_end s0.ps p []
  rw [List.append_nil] at e9
  refine ⟨s0.ps.length, by rw [← e1, hp], by simp [hp], ⟨[p], by simp [hp]⟩, ?_, ?_, 0, ?_, ?_⟩
  · show Tb (s.ps ++ [p])
    rw [hp]
    exact put_tb h (by rw [hk]; exact h1) (fun x hx => by rw [hk] at hx; cases hx)
  · show clG g (pt (s.ps ++ [p]) s0.ps.length).kind
    rw [hp, e9]
    exact hc
  · show HgE (s.ps ++ [p]) s0.ps.length 0
    rw [hp]
    exact put_hg (fun _ => 0) (fun x hx => by rw [hk] at hx; cases hx)
  · show s0.ns + 0 + exG g (pt (s.ps ++ [p]) s0.ps.length).kind ≤ 32
    rw [hp, e9, hx]
    omega
/-- The kids of a part that is to be put. -/
structure Kd (ps : List Pt) (ns : Nat) (k : Int) (ks : List Int) : Prop where
  ok : ∀ x, x ∈ ks → ∃ y h : Nat, x = (y : Int) ∧ y < ps.length ∧ clsB k (pt ps y).kind = true ∧ HgE ps y h ∧ ((ns : Int) + btw k (pt ps y).kind + (h : Int) ≤ 32)
theorem Kd.ext {ps : List Pt} {ns : Nat} {k : Int} {ks : List Int} (H : Kd ps ns k ks) (Q : List Pt) : Kd (ps ++ Q) ns k ks := ⟨fun x hx => by
  obtain ⟨y, h, e, h1, h2, h3, h4⟩ := H.ok x hx
  exact ⟨y, h, e, by rw [List.length_append]; omega, by rw [pt_in h1]; exact h2, h3.ext Q, by rw [pt_in h1]; exact h4⟩⟩
theorem Kd.app {ps : List Pt} {ns : Nat} {k : Int} {a b : List Int} (h1 : Kd ps ns k a) (h2 : Kd ps ns k b) : Kd ps ns k (a ++ b) := ⟨fun x hx => by
  rcases List.mem_append.1 hx with hx | hx
  · exact h1.ok x hx
  · exact h2.ok x hx⟩
theorem put_v {g : Gr} {s s0 s' : PS} {p : Pt} {x k : Int} (e : putP s p x = .ok (k, s')) (hq : ∃ Q, s.ps = s0.ps ++ Q) (hn : s0.ns ≤ 32) (h : Tb s.ps) (h1 : kidsB p.kind p.kids.length = true ∧ 1 ≤ p.kind ∧ p.kind ≤ 20 ∧ holdsB p.kind p.text p.num = true) (hK : Kd s.ps s0.ns p.kind p.kids) (hc : clG g p.kind) (hx : exG g p.kind = 0) : ∃ y, Vy g s0.ns s0 s' k y := by
  unfold putP at e
  injection e with e
  injection e with e1 e2
  subst e2
  have e9 := pt_end s.ps p []
  rw [List.append_nil] at e9
  have hf : ∃ f : Nat → Nat, ∀ y : Nat, (y : Int) ∈ p.kids → y < s.ps.length ∧ clsB p.kind (pt s.ps y).kind = true ∧ HgE s.ps y (f y) ∧ (s0.ns : Int) + btw p.kind (pt s.ps y).kind + (f y : Int) ≤ 32 := by
    have key : ∀ y : Nat, (y : Int) ∈ p.kids → ∃ h : Nat, y < s.ps.length ∧ clsB p.kind (pt s.ps y).kind = true ∧ HgE s.ps y h ∧ (s0.ns : Int) + btw p.kind (pt s.ps y).kind + (h : Int) ≤ 32 := fun y hy => by
      obtain ⟨y', h, e, q⟩ := hK.ok (y : Int) hy
      have e0 : y' = y := by omega
      subst e0
      exact ⟨h, q⟩
    refine ⟨fun y => if hy : (y : Int) ∈ p.kids then Classical.choose (key y hy) else 0, fun y hy => ?_⟩
    simp only [dif_pos hy]
    exact Classical.choose_spec (key y hy)
  obtain ⟨f, hf⟩ := hf
  obtain ⟨Q, hQ⟩ := hq
  refine ⟨s.ps.length, e1.symm, by simp, ⟨Q ++ [p], by show s.ps ++ [p] = _; rw [hQ, List.append_assoc]⟩, ?_, ?_, 32 - s0.ns, ?_, ?_⟩
  · refine put_tb h h1 (fun x hx => ?_)
    obtain ⟨y, h, rfl, q1, q2, _⟩ := hK.ok x hx
    exact ⟨by omega, by omega, by rw [show ((y : Int).toNat) = y by omega]; exact q2⟩
  · show clG g (pt (s.ps ++ [p]) s.ps.length).kind
    rw [e9]
    exact hc
  · show HgE (s.ps ++ [p]) s.ps.length (32 - s0.ns)
    refine put_hg f (fun y hy => ?_)
    obtain ⟨q1, q2, q3, q4⟩ := hf y hy
    exact ⟨q1, by omega, q3⟩
  · show s0.ns + (32 - s0.ns) + exG g (pt (s.ps ++ [p]) s.ps.length).kind ≤ 32
    rw [e9, hx]
    omega
end Go.Proofs.YtlhlpamciafocaaGreatDoor.L
namespace Go.Proofs.YtlhlpamciafocaaGreatDoor.L
open Go.RowKit Go.Shelf
set_option linter.unusedVariables false
set_option linter.unusedSimpArgs false
section
variable {T : List Tok}
/-- Numbers of tokens are small. -/
def Nmt (T : List Tok) : Prop := ∀ i, (tk T i).kind = 2 → -999999999999999999 ≤ (tk T i).num ∧ (tk T i).num ≤ 999999999999999999
theorem Vy.to {g : Gr} {ns : Nat} {s s' s2 : PS} {k : Int} {y : Nat} (v : Vy g ns s s' k y) (h : s2.ps = s'.ps) : Vy g ns s s2 k y := ⟨v.eq, by rw [h]; exact v.lt, by rw [h]; exact v.ext, by rw [h]; exact v.tb, by rw [h]; exact v.cl, by rw [h]; exact v.hg⟩
theorem Vy.of {g : Gr} {ns : Nat} {s s0 s' : PS} {k : Int} {y : Nat} (v : Vy g ns s s' k y) (h : s0.ps = s.ps) : Vy g ns s0 s' k y := ⟨v.eq, v.lt, by rw [h]; exact v.ext, v.tb, v.cl, v.hg⟩
theorem Vy.up {g g' : Gr} {n n' : Nat} {s s' : PS} {k : Int} {y : Nat} (v : Vy g n s s' k y) (h1 : ∀ q, clG g q → clG g' q ∧ n' + exG g' q ≤ n + exG g q) : Vy g' n' s s' k y := by
  obtain ⟨h, q1, q2⟩ := v.hg
  have h9 := h1 _ v.cl
  exact ⟨v.eq, v.lt, v.ext, v.tb, h9.1, h, q1, by omega⟩
theorem kd_one {g : Gr} {n ns : Nat} {s s' : PS} {k kd : Int} {y : Nat} (v : Vy g n s s' k y) (h1 : ∀ q, clG g q → clsB kd q = true ∧ (ns : Int) + btw kd q ≤ (n : Int) + (exG g q : Int)) : Kd s'.ps ns kd [k] := ⟨fun x hx => by
  rw [List.mem_singleton] at hx
  subst hx
  obtain ⟨h, q1, q2⟩ := v.hg
  have h9 := h1 _ v.cl
  exact ⟨y, h, v.eq, v.lt, h9.1, q1, by omega⟩⟩
theorem kd_nil (ps : List Pt) (ns : Nat) (k : Int) : Kd ps ns k [] := ⟨fun x hx => by cases hx⟩
theorem el_v (hT : Txt T) (hN : Nmt T) {s s' : PS} {k : Int} (ht : Tb s.ps) (hn : s.ns ≤ 32) (he : isEl (tk T s.nx) = true) (e : elP T s = .ok (k, s')) : ∃ y, Vy .term s.ns s s' k y ∧ ((pt s'.ps y).kind = 11 ∨ (pt s'.ps y).kind = 12) := by
  have e9 : ∀ p, pt (s.ps ++ [p]) s.ps.length = p := fun p => by have := pt_end s.ps p []; rwa [List.append_nil] at this
  have fin : ∀ p x, putP (adv s) p x = .ok (k, s') → p.kids = [] → (kidsB p.kind 0 = true ∧ 1 ≤ p.kind ∧ p.kind ≤ 20 ∧ holdsB p.kind p.text p.num = true) → (p.kind = 11 ∨ p.kind = 12) → ∃ y, Vy .term s.ns s s' k y ∧ ((pt s'.ps y).kind = 11 ∨ (pt s'.ps y).kind = 12) := fun p x e hk h1 h2 => by
    obtain ⟨y, v⟩ := leaf_v (g := .term) (s0 := s) e rfl hn ht hk h1 (by show 11 ≤ p.kind ∧ p.kind ≤ 20; omega) rfl
    refine ⟨y, v, ?_⟩
    have hv := v.eq
    unfold putP at e
    injection e with e
    injection e with e1 e2
    subst e2
    have ey : y = s.ps.length := by
      have : ((s.ps.length : Nat) : Int) = k := e1
      omega
    rw [ey]
    show (pt (s.ps ++ [p]) s.ps.length).kind = 11 ∨ (pt (s.ps ++ [p]) s.ps.length).kind = 12
    rw [e9]
    exact h2
  unfold elP at e
  by_cases h1 : (tk T s.nx).kind = 1
  · rw [if_pos h1] at e
    exact fin _ _ e rfl ⟨by simp [kidsB], by simp, by simp, by have := hT s.nx h1; simp [holdsB]; omega⟩ (Or.inl rfl)
  · rw [if_neg h1] at e
    have h2 : (tk T s.nx).kind = 2 := by
      unfold isEl at he
      simp [h1] at he
      exact he
    exact fin _ _ e rfl ⟨by simp [kidsB], by simp, by simp, by have := hN s.nx h2; simp [holdsB, ByteArray.toList_eq]; exact this⟩ (Or.inr rfl)
theorem mem_v (hT : Txt T) (hN : Nmt T) {s s' : PS} {k : Int} {n ns : Nat} (ht : Tb s.ps) (hns : s.ns = ns) (hn : ns ≤ 32) (e : memP T s n = .ok (k, s')) : (∃ Q, s'.ps = s.ps ++ Q) ∧ Tb s'.ps ∧ Kd s'.ps ns 13 [k] ∧ s'.ns = ns := by
  have hg := (gn_mem e).ns
  unfold memP at e
  split at e
  · rename_i he
    split at e
    · cases e
    · obtain ⟨y, v, hk⟩ := el_v hT hN ht (by omega) he e
      refine ⟨v.ext, v.tb, ⟨fun x hx => ?_⟩, by omega⟩
      rw [List.mem_singleton] at hx
      subst hx
      obtain ⟨h, q1, q2⟩ := v.hg
      refine ⟨y, h, v.eq, v.lt, by rcases hk with hk | hk <;> rw [hk] <;> decide, q1, ?_⟩
      have hb : btw 13 (pt s'.ps y).kind = 0 := by unfold btw opB brB; simp
      rw [hb]
      have : exG .term (pt s'.ps y).kind = 0 := rfl
      omega
  · cases e
theorem mems_v (hT : Txt T) (hN : Nmt T) {ns : Nat} (hn : ns ≤ 32) : ∀ (n : Nat) {ks ks' : List Int} {s s' : PS}, Tb s.ps → s.ns = ns → Kd s.ps ns 13 ks → memsP T n ks s = .ok (ks', s') → (∃ Q, s'.ps = s.ps ++ Q) ∧ Tb s'.ps ∧ Kd s'.ps ns 13 ks' ∧ s'.ns = ns
  | 0, ks, ks', s, s', ht, hns, hk, e => by
    injection e with e
    injection e with e1 e2
    subst e1 e2
    exact ⟨⟨[], by simp⟩, ht, hk, hns⟩
  | n + 1, ks, ks', s, s', ht, hns, hk, e => by
    unfold memsP at e
    split at e
    · obtain ⟨k, s1, e1, e2⟩ := bnd_inv e
      obtain ⟨⟨Q, hQ⟩, t1, k1, n1⟩ := mem_v hT hN (s := adv s) ht hns hn e1
      have hQ' : s1.ps = s.ps ++ Q := hQ
      obtain ⟨⟨Q2, hQ2⟩, t2, k2, n2⟩ := mems_v hT hN hn n t1 n1 (Kd.app (by rw [hQ']; exact hk.ext Q) k1) e2
      exact ⟨⟨Q ++ Q2, by rw [hQ2, hQ', List.append_assoc]⟩, t2, k2, n2⟩
    · injection e with e
      injection e with e1 e2
      subst e1 e2
      exact ⟨⟨[], by simp⟩, ht, hk, hns⟩
theorem mems_len : ∀ (n : Nat) {ks ks' : List Int} {s s' : PS}, ks.length ≤ 64 → memsP T n ks s = .ok (ks', s') → ks'.length ≤ 64
  | 0, ks, ks', s, s', h, e => by
    injection e with e
    injection e with e1 e2
    subst e1
    exact h
  | n + 1, ks, ks', s, s', h, e => by
    unfold memsP at e
    split at e
    · obtain ⟨k, s1, e1, e2⟩ := bnd_inv e
      refine mems_len n ?_ e2
      unfold memP at e1
      split at e1
      · split at e1
        · cases e1
        · simp; omega
      · cases e1
    · injection e with e
      injection e with e1 e2
      subst e1
      exact h
theorem set_v (hT : Txt T) (hN : Nmt T) : Vg .term (setP T) := by
  intro s k s' ht hn e
  unfold setP at e
  obtain ⟨u, s1, e1, e⟩ := bnd_inv e
  obtain ⟨ks, s2, e2, e⟩ := bnd_inv e
  obtain ⟨ks', s3, e3, e⟩ := bnd_inv e
  obtain ⟨u4, s4, e4, e⟩ := bnd_inv e
  have m1 := mark_ok e1
  have m4 := mark_ok e4
  have h2 : (∃ Q, s2.ps = s.ps ++ Q) ∧ Tb s2.ps ∧ Kd s2.ps s.ns 13 ks ∧ s2.ns = s.ns ∧ ks.length ≤ 1 := by
    split at e2
    · injection e2 with e2
      injection e2 with ea eb
      subst ea eb
      rw [m1]
      exact ⟨⟨[], by simp [adv]⟩, ht, kd_nil _ _ _, rfl, by simp⟩
    · obtain ⟨k0, sx, ex, ey⟩ := bnd_inv e2
      injection ey with ey
      injection ey with ea eb
      subst ea eb
      rw [m1] at ex
      obtain ⟨a, b, c, d⟩ := mem_v hT hN (s := adv s) ht rfl hn ex
      exact ⟨a, b, c, d, by simp⟩
  obtain ⟨⟨Q, hQ⟩, t2, k2, n2, l2⟩ := h2
  obtain ⟨⟨Q2, hQ2⟩, t3, k3, n3⟩ := mems_v hT hN hn 4097 t2 n2 k2 e3
  have hl : ks'.length ≤ 64 := by
    by_cases h64 : ks.length ≤ 64
    · exact mems_len 4097 h64 e3
    · omega
  refine put_v (g := .term) (s0 := s) e ⟨Q ++ Q2, by rw [m4]; show s3.ps = _; rw [hQ2, hQ, List.append_assoc]⟩ hn (by rw [m4]; exact t3) ⟨by simp [kidsB]; omega, by simp, by simp, by simp [holdsB, ByteArray.toList_eq]⟩ (by rw [m4]; exact k3) (by simp [clG]) rfl
end
end Go.Proofs.YtlhlpamciafocaaGreatDoor.L
namespace Go.Proofs.YtlhlpamciafocaaGreatDoor.L
open Go.RowKit Go.Shelf
set_option linter.unusedVariables false
set_option linter.unusedSimpArgs false
section
variable {T : List Tok}
theorem named_ps {s s' : PS} {t : ByteArray} (e : namedP T s = .ok (t, s')) : s'.ps = s.ps := by
  unfold namedP at e
  obtain ⟨u, s1, e1, e⟩ := bnd_inv e
  obtain ⟨t1, s2, e2, e⟩ := bnd_inv e
  obtain ⟨u3, s3, e3, e⟩ := bnd_inv e
  injection e with e
  injection e with _ e
  subst e
  rw [mark_ok e3, text_ok e2, mark_ok e1]
  rfl
theorem field_v {s s' : PS} {k : Int} (e : fieldP T s = .ok (k, s')) : s'.ps = s.ps ∧ (k = 15 ∨ k = 16 ∨ k = 17 ∨ k = 18) := by
  unfold fieldP at e
  split at e
  · cases e
  · rename_i h
    injection e with e
    injection e with e1 e2
    subst e1 e2
    refine ⟨rfl, ?_⟩
    unfold fieldO at h ⊢
    split at h
    · rename_i h3
      rw [if_pos h3]
      repeat' split
      all_goals first | omega | simp_all
    · exact absurd rfl h
theorem who_v (hT : Txt T) {side : Int} (hs : 1 ≤ side ∧ side ≤ 3) : Vg .term (fun s => whoP T s side) := by
  intro s k s' ht hn e
  have e : whoP T s side = .ok (k, s') := e
  unfold whoP at e
  split at e
  · obtain ⟨t, s1, e1, e⟩ := bnd_inv e
    obtain ⟨u, s2, e2, e⟩ := bnd_inv e
    exact leaf_v (g := .term) (s0 := s) e (by rw [mark_ok e2, text_ok e1]; rfl) hn ht rfl ⟨by simp [kidsB], by simp, by simp, by have := text_len hT e1; simp [holdsB]; omega⟩ (by simp [clG]) rfl
  · obtain ⟨u, s1, e1, e⟩ := bnd_inv e
    obtain ⟨f, s2, e2, e⟩ := bnd_inv e
    have hf := field_v e2
    have h12 : s2.ps = s.ps := by rw [hf.1, mark_ok e1]; rfl
    split at e
    · obtain ⟨t, s3, e3, e⟩ := bnd_inv e
      exact leaf_v (g := .term) (s0 := s) e (by rw [named_ps e3, h12]) hn ht rfl ⟨by simp [kidsB], by simp, by simp, by have := named_len hT e3; simp [holdsB]; omega⟩ (by simp [clG]) rfl
    · rename_i h18
      have hf3 : f = 15 ∨ f = 16 ∨ f = 17 := by have := hf.2; omega
      refine leaf_v (g := .term) (s0 := s) e h12 hn ht rfl ⟨?_, ?_, ?_, ?_⟩ ?_ rfl
      · rcases hf3 with rfl | rfl | rfl <;> simp [kidsB]
      · show 1 ≤ f; omega
      · show f ≤ 20; omega
      · rcases hf3 with rfl | rfl | rfl <;> simp [holdsB, ByteArray.toList_eq] <;> omega
      · show 11 ≤ f ∧ f ≤ 20; omega
theorem const_v {kk : Int} (hk : kk = 1 ∨ kk = 2) : Vg .unit (fun s => constP T s kk) := by
  intro s k s' ht hn e
  have e : putP (adv s) ⟨kk, ⟨#[]⟩, 0, []⟩ _ = .ok (k, s') := e
  refine leaf_v (g := .unit) (s0 := s) e rfl hn ht rfl ⟨?_, ?_, ?_, ?_⟩ ?_ ?_
  · rcases hk with rfl | rfl <;> simp [kidsB]
  · show 1 ≤ kk; omega
  · show kk ≤ 20; omega
  · rcases hk with rfl | rfl <;> simp [holdsB, ByteArray.toList_eq]
  · show 1 ≤ kk ∧ kk ≤ 10; omega
  · rcases hk with rfl | rfl <;> rfl
theorem tol_v (hT : Txt T) : Vg .unit (fun s => tolP T s) := by
  intro s k s' ht hn e
  have e : tolP T s = .ok (k, s') := e
  unfold tolP at e
  obtain ⟨t, s1, e1, e⟩ := bnd_inv e
  exact leaf_v (g := .unit) (s0 := s) e (by rw [named_ps e1]; rfl) hn ht rfl ⟨by simp [kidsB], by simp, by simp, by have := named_len hT e1; simp [holdsB]; omega⟩ (by simp [clG]) rfl
theorem open_ns {s s' : PS} {m : List UInt8} {u : Unit} (h : openP T s m = .ok (u, s')) : s.ns ≠ 32 := by
  unfold openP at h
  split at h
  · split at h
    · cases h
    · assumption
  · cases h
theorem with_v {α : Type} {inn : PS → PRes α} {s s' : PS} {a : α} (e : withP T inn s = .ok (a, s')) : ∃ s1 s2, s1.ps = s.ps ∧ s1.ns = s.ns + 1 ∧ s.ns ≠ 32 ∧ inn s1 = .ok (a, s2) ∧ s'.ps = s2.ps := by
  unfold withP at e
  obtain ⟨u, s1, e1, e⟩ := bnd_inv e
  obtain ⟨k, s2, e2, e⟩ := bnd_inv e
  obtain ⟨u3, s3, e3, e⟩ := bnd_inv e
  injection e with e
  injection e with ea eb
  subst ea
  subst eb
  exact ⟨s1, s2, by rw [open_ok e1]; rfl, by rw [open_ok e1], open_ns e1, e2, by rw [mark_ok e3]; rfl⟩
theorem group_v {ex : PS → PRes Int} (h : Vg .expr ex) : Vg .unit (withP T ex) := by
  intro s k s' ht hn e
  obtain ⟨s1, s2, p1, n1, n32, e1, p2⟩ := with_v e
  obtain ⟨y, v⟩ := h s1 k s2 (by rw [p1]; exact ht) (by omega) e1
  have v2 := (v.to p2).of (s0 := s) p1.symm
  refine ⟨y, v2.up fun q hq => ⟨hq, ?_⟩⟩
  have : exG .unit q ≤ 1 := by show (if q = 4 ∨ q = 5 then 1 else 0) ≤ 1; split <;> omega
  have : exG .expr q = 0 := rfl
  omega
theorem sel_v (hT : Txt T) {ex : PS → PRes Int} (h : Vg .expr ex) {kd : Int} {g : Gr} (hk : (kd = 8 ∧ g = .unit) ∨ (kd = 9 ∧ g = .unit) ∨ (kd = 20 ∧ g = .term)) : Vg g (selP T ex kd) := by
  intro s k s' ht hn e
  unfold selP at e
  obtain ⟨q, s5, e5, e⟩ := bnd_inv e
  obtain ⟨s1, s2, p1, n1, n32, e1, p2⟩ := with_v e5
  obtain ⟨t, s3, f1, e1⟩ := bnd_inv e1
  obtain ⟨u, s4, f2, e1⟩ := bnd_inv e1
  obtain ⟨r, s6, f3, e1⟩ := bnd_inv e1
  injection e1 with e1
  injection e1 with ea eb
  subst ea eb
  have p4 : s4.ps = s.ps := by rw [mark_ok f2, text_ok f1]; exact p1
  have n4 : s4.ns = s.ns + 1 := by rw [mark_ok f2, text_ok f1]; exact n1
  have n32' : s.ns ≠ 32 := n32
  obtain ⟨y, v⟩ := h s4 r s6 (by rw [p4]; exact ht) (by omega) f3
  have hext := v.ext
  rw [p4] at hext
  have hK : Kd s6.ps s.ns kd [r] := kd_one v fun q hq => by
    have hq : 1 ≤ q ∧ q ≤ 10 := hq
    have e0 : (exG .expr q : Int) = 0 := rfl
    rcases hk with ⟨rfl, _⟩ | ⟨rfl, _⟩ | ⟨rfl, _⟩ <;> exact ⟨by simp [clsB] <;> omega, by rw [e0, n4]; simp [btw, opB, brB] <;> omega⟩
  refine put_v (g := g) (s0 := s) e (by rw [p2]; exact hext) hn (by rw [p2]; exact v.tb) ⟨?_, ?_, ?_, ?_⟩ (by rw [p2]; exact hK) ?_ ?_
  · rcases hk with ⟨rfl, _⟩ | ⟨rfl, _⟩ | ⟨rfl, _⟩ <;> simp [kidsB]
  · show 1 ≤ kd; omega
  · show kd ≤ 20; omega
  · have := text_len hT f1
    rcases hk with ⟨rfl, _⟩ | ⟨rfl, _⟩ | ⟨rfl, _⟩ <;> simp [holdsB] <;> omega
  · rcases hk with ⟨rfl, rfl⟩ | ⟨rfl, rfl⟩ | ⟨rfl, rfl⟩ <;> simp [clG]
  · rcases hk with ⟨rfl, rfl⟩ | ⟨rfl, rfl⟩ | ⟨rfl, rfl⟩ <;> rfl
theorem int_v {te : PS → PRes Int} (h : Vg .term te) : Vg .term (fun s => bnd (withP T te (adv s)) fun k s1 => putP s1 ⟨19, ⟨#[]⟩, 0, [k]⟩ ((tk T s.nx).a : Int)) := by
  intro s k s' ht hn e
  obtain ⟨q, s5, e5, e⟩ := bnd_inv e
  obtain ⟨s1, s2, p1, n1, n32, e1, p2⟩ := with_v e5
  have p1' : s1.ps = s.ps := p1
  have n1' : s1.ns = s.ns + 1 := n1
  have n32' : s.ns ≠ 32 := n32
  obtain ⟨y, v⟩ := h s1 q s2 (by rw [p1']; exact ht) (by omega) e1
  have hext := v.ext
  rw [p1'] at hext
  have hK : Kd s2.ps s.ns 19 [q] := kd_one v fun q hq => by
    have hq : 11 ≤ q ∧ q ≤ 20 := hq
    have e0 : (exG .term q : Int) = 0 := rfl
    exact ⟨by simp [clsB] <;> omega, by rw [e0, n1']; simp [btw, opB, brB] <;> omega⟩
  exact put_v (g := .term) (s0 := s) e (by rw [p2]; exact hext) hn (by rw [p2]; exact v.tb) ⟨by simp [kidsB], by simp, by simp, by simp [holdsB, ByteArray.toList_eq]⟩ (by rw [p2]; exact hK) (by simp [clG]) rfl
theorem br_unit {q : Int} : btw 3 q = 1 + (exG .unit q : Int) ∧ btw 4 q = (exG .unit q : Int) ∧ btw 5 q = (exG .conj q : Int) := by
  unfold btw opB brB exG
  by_cases h4 : q = 4
  · subst h4; decide
  · by_cases h5 : q = 5
    · subst h5; decide
    · simp [h4, h5]
theorem neg_v {un : PS → PRes Int} (h : Vg .unit un) : Vg .unit (negP T un) := by
  intro s k s' ht hn e
  unfold negP at e
  obtain ⟨u, s1, e1, e⟩ := bnd_inv e
  obtain ⟨q, s2, e2, e⟩ := bnd_inv e
  have p1 : s1.ps = s.ps := by rw [open_ok e1]; rfl
  have n1 : s1.ns = s.ns + 1 := by rw [open_ok e1]
  have n32 := open_ns e1
  obtain ⟨y, v⟩ := h s1 q s2 (by rw [p1]; exact ht) (by omega) e2
  have hext := v.ext
  rw [p1] at hext
  have hK : Kd s2.ps s.ns 3 [q] := kd_one v fun q hq => by
    have hq : 1 ≤ q ∧ q ≤ 10 := hq
    exact ⟨by simp [clsB] <;> omega, by rw [br_unit.1, n1]; omega⟩
  exact put_v (g := .unit) (s0 := s) e hext hn v.tb ⟨by simp [kidsB], by simp, by simp, by simp [holdsB, ByteArray.toList_eq]⟩ hK (by simp [clG]) rfl
end
end Go.Proofs.YtlhlpamciafocaaGreatDoor.L
