import Derived.Test.YtlhlpamciafocaaGreatDoorMgAW
namespace Go.Proofs.YtlhlpamciafocaaGreatDoor.L
open Go.RowKit Go.Shelf
set_option linter.unusedVariables false
set_option linter.unusedSimpArgs false
theorem tk_kq (l : List Tok) (j : Nat) (h : j < l.length) : tk (l.map kq) j = kq (tk l j) := tk_map h
/-- THERE AND BACK: the text of a valid tree reads as that tree. -/
theorem reads_back {P : List Pt} (h1 : 1 ≤ P.length) (hL : P.length ≤ 1000) (hok : Ok0 P) (hl : ¬ Lst P) (hd : NoDeep P) (hn0 : (nests P).getD (P.length - 1) 0 = 0) (ht : ((txs P P.length).getD (P.length - 1) []).length ≤ 4096) :
    ∃ s, parR (S ((txs P P.length).getD (P.length - 1) [])) = .ok s ∧ s.ps = P := by
  obtain ⟨y, hy⟩ : ∃ y, y = P.length - 1 := ⟨_, rfl⟩
  have hyl : y < P.length := by omega
  have hyP : P.length = y + 1 := by omega
  rw [← hy] at hn0 ht ⊢
  have et : (txs P P.length).getD y [] = txp P y := getD_txs P hyl
  rw [et] at ht ⊢
  have hk : (pt P y).kind ≤ 10 := by
    unfold Lst at hl
    rw [← hy] at hl
    omega
  have hf1 : (fre P P.length).length ≤ 1 := by
    unfold Lst at hl
    omega
  have hc : Chn P 0 (pt P y).kids y := by
    have h9 := chn_fre hok P.length (Nat.le_refl _)
    have e : fre P P.length = (fre P y).take ((fre P y).length - (pt P y).kids.length) ++ [(y : Int)] := by rw [hyP]; rfl
    rw [e] at h9 hf1
    have hnil : (fre P y).take ((fre P y).length - (pt P y).kids.length) = [] := by
      rw [List.length_append, List.length_singleton] at hf1
      exact List.length_eq_zero_iff.1 (by omega)
    rw [hnil, List.nil_append] at h9
    generalize hv : (y : Int) = v at h9
    cases h9 with
    | @cons _ y' _ _ c1 c2 =>
      have e2 : y' = y := by omega
      subst e2
      exact c1
  have hz : (S (txp P y)).size = (txp P y).length := S_size _
  have hst : Stands (S (txp P y)) 0 (txp P y) := ⟨by rw [hz]; omega, fun j hj => by rw [Nat.zero_add]; rfl⟩
  have hsp : Stp (S (txp P y)) (0 + (txp P y).length) := stp_of (bt_out _ _ (by rw [hz]; omega)) (by decide)
  obtain ⟨l, hs, hm⟩ := (sb_all hok y hyl).2 _ 0 hst hsp
  have hT := sc_end hs (by rw [hz]; omega) (by rw [hz]; exact ht)
  have hlen : l.length = (tkp P y).length := by rw [← hm, List.length_map]
  have hkx : Kx (l ++ [tokE (S (txp P y)).size]) 0 (tkp P y) := fun j hj => by
    rw [Nat.zero_add, tk_l (by omega), ← hm, tk_kq l j (by omega)]
  have hend : tk (l ++ [tokE (S (txp P y)).size]) (0 + (tkp P y).length) = tokE (S (txp P y)).size := by rw [Nat.zero_add, ← hlen, tk_last]
  have hnm : ∀ m, nm (l ++ [tokE (S (txp P y)).size]) (0 + (tkp P y).length) m = false := fun m => nm_no (by rw [hend]; exact Nat.zero_ne_add_one 3) m
  obtain ⟨N, os, hg⟩ := expr_of (T := l ++ [tokE (S (txp P y)).size]) (a := 0) (d := 0) (ns := 0) (os := []) (rb_all hok hd hL y hyl) hk hc hkx (by rw [hn0]; rfl) (hnm _) (hnm _)
  have hTl : (l ++ [tokE (S (txp P y)).size]).length ≤ 4097 := by
    have h9 := scan_len (S (txp P y)) _ 0 rfl (Nat.zero_le _)
    have e : scanT (S (txp P y)) = scanS (S (txp P y)) 0 := by unfold scanT; exact if_pos (by rw [hz]; exact ht)
    rw [← e, hT] at h9
    simp only at h9
    omega
  have hgr : gr (l ++ [tokE (S (txp P y)).size]) 16392 .expr ⟨0, 0, [], []⟩ = .ok ((y : Int), ⟨0 + (tkp P y).length, 0, P.take (y + 1), os⟩) := by
    have h9 := hg (max N 16392) (by omega)
    have e9 := gr_less (T := l ++ [tokE (S (txp P y)).size]) (g := .expr) (s := ⟨0, 0, [], []⟩) (n := 16392) (m := max N 16392) (by show 4 * ((l ++ [tokE (S (txp P y)).size]).length - 0) + 3 < 16392; omega) (by omega)
    exact e9.symm.trans h9
  have htk : P.take (y + 1) = P := by rw [← hyP]; exact List.take_length
  rw [htk] at hgr
  refine ⟨⟨0 + (tkp P y).length, 0, P, os⟩, ?_, rfl⟩
  unfold parR
  rw [hT]
  simp only
  unfold wholeP
  rw [hgr, bnd_ok]
  simp only
  rw [hend, if_pos (show (tokE (S (txp P y)).size).kind = 0 from rfl), if_neg (by omega)]
end Go.Proofs.YtlhlpamciafocaaGreatDoor.L
namespace Go.Proofs.YtlhlpamciafocaaGreatDoor.L
open Go.RowKit Go.Shelf
set_option linter.unusedVariables false
theorem nest_root {P : List Pt} (hok : Ok0 P) (h1 : 1 ≤ P.length) : (nests P).getD (P.length - 1) 0 = 0 := by
  unfold nests
  rw [nsts_at hok P.length _ (P.length - 1) (Nat.le_refl _) (by simp) (fun k hk h9 => by have := (hok k hk).lt h9; omega)]
  rw [List.getD_eq_getElem?_getD, List.getElem?_replicate]
  split <;> rfl
/-- The text of a valid tree, if it is short enough, reads as that tree. -/
theorem reads_res {P : List Pt} (h : Res P 0 0) (hs : Shrt P P.length) : ∃ s, parR (S ((txs P P.length).getD (P.length - 1) [])) = .ok s ∧ s.ps = P := by
  rcases h with ⟨_, h, _⟩ | ⟨_, h, _⟩ | ⟨h1, h2, ⟨_, h⟩ | ⟨_, _, h, _⟩ | ⟨hok, hl, ⟨_, h⟩ | ⟨hd, _, _⟩⟩⟩
  · exact absurd h (by decide)
  · exact absurd h (by decide)
  · exact absurd h (by decide)
  · exact absurd h (by decide)
  · exact absurd h (by decide)
  · exact reads_back h1 h2 hok hl hd (nest_root hok h1) (hs _ (by omega))
end Go.Proofs.YtlhlpamciafocaaGreatDoor.L
namespace Go.Proofs.YtlhlpamciafocaaGreatDoor.L
open Go.RowKit Go.Shelf
set_option linter.unusedVariables false
set_option linter.unusedSimpArgs false
/-- What stands in y nests at most h deeper than y. -/
inductive Hg (P : List Pt) : Nat → Nat → Prop
  | mk {y h : Nat} (f : Nat → Nat) : (∀ x : Nat, (x : Int) ∈ (pt P y).kids → btw (pt P y).kind (pt P x).kind + (f x : Int) ≤ (h : Int)) → (∀ x : Nat, (x : Int) ∈ (pt P y).kids → Hg P x (f x)) → Hg P y h
def HgE (ps : List Pt) (y h : Nat) : Prop := ∀ Q, Hg (ps ++ Q) y h
theorem HgE.ext {ps : List Pt} {y h : Nat} (H : HgE ps y h) (Q : List Pt) : HgE (ps ++ Q) y h := fun R => by rw [List.append_assoc]; exact H _
/-- What the table says of each part. -/
def Tb (ps : List Pt) : Prop := ∀ j, j < ps.length → kidsB (pt ps j).kind (pt ps j).kids.length = true ∧ 1 ≤ (pt ps j).kind ∧ (pt ps j).kind ≤ 20 ∧ holdsB (pt ps j).kind (pt ps j).text (pt ps j).num = true ∧ ∀ x, x ∈ (pt ps j).kids → 0 ≤ x ∧ x < (j : Int) ∧ clsB (pt ps j).kind (pt ps x.toNat).kind = true
theorem pt_in {A B : List Pt} {j : Nat} (h : j < A.length) : pt (A ++ B) j = pt A j := by
  unfold pt
  rw [List.getD_eq_getElem?_getD, List.getD_eq_getElem?_getD, List.getElem?_append_left h]
theorem pt_end (A : List Pt) (p : Pt) (B : List Pt) : pt (A ++ [p] ++ B) A.length = p := by
  rw [pt_in (by simp)]
  unfold pt
  rw [List.getD_eq_getElem?_getD, List.getElem?_append_right (Nat.le_refl _), Nat.sub_self]
  rfl
/-- How much more a part of this kind needs where it stands as this. -/
def exG (g : Gr) (k : Int) : Nat :=
  match g with
  | .unit => if k = 4 ∨ k = 5 then 1 else 0
  | .conj => if k = 5 then 1 else 0
  | _ => 0
def clG (g : Gr) (k : Int) : Prop :=
  match g with
  | .term => 11 ≤ k ∧ k ≤ 20
  | _ => 1 ≤ k ∧ k ≤ 10
/-- What is known of a part that was read. -/
structure Vy (g : Gr) (ns : Nat) (s s' : PS) (k : Int) (y : Nat) : Prop where
  eq : k = (y : Int)
  lt : y < s'.ps.length
  ext : ∃ Q, s'.ps = s.ps ++ Q
  tb : Tb s'.ps
  cl : clG g (pt s'.ps y).kind
  hg : ∃ h, HgE s'.ps y h ∧ ns + h + exG g (pt s'.ps y).kind ≤ 32
def Vg (g : Gr) (r : PS → PRes Int) : Prop := ∀ s k s', Tb s.ps → s.ns ≤ 32 → r s = .ok (k, s') → ∃ y, Vy g s.ns s s' k y
/-- One part more. -/
theorem put_tb {ps : List Pt} {p : Pt} (h : Tb ps) (h1 : kidsB p.kind p.kids.length = true ∧ 1 ≤ p.kind ∧ p.kind ≤ 20 ∧ holdsB p.kind p.text p.num = true) (h2 : ∀ x, x ∈ p.kids → 0 ≤ x ∧ x < (ps.length : Int) ∧ clsB p.kind (pt ps x.toNat).kind = true) : Tb (ps ++ [p]) := by
  intro j hj
  rw [List.length_append, List.length_singleton] at hj
  by_cases e : j < ps.length
  · rw [pt_in e]
    obtain ⟨a, b, c, d, f⟩ := h j e
    exact ⟨a, b, c, d, fun x hx => by obtain ⟨q1, q2, q3⟩ := f x hx; exact ⟨q1, q2, by rw [pt_in (by omega)]; exact q3⟩⟩
  · obtain rfl : j = ps.length := by omega
    have e2 := pt_end ps p []
    rw [List.append_nil] at e2
    rw [e2]
    exact ⟨h1.1, h1.2.1, h1.2.2.1, h1.2.2.2, fun x hx => by obtain ⟨q1, q2, q3⟩ := h2 x hx; exact ⟨q1, q2, by rw [pt_in (by omega)]; exact q3⟩⟩
theorem put_hg {ps : List Pt} {p : Pt} {h : Nat} (f : Nat → Nat) (h1 : ∀ x : Nat, (x : Int) ∈ p.kids → x < ps.length ∧ btw p.kind (pt ps x).kind + (f x : Int) ≤ (h : Int) ∧ HgE ps x (f x)) : HgE (ps ++ [p]) ps.length h := by
  intro Q
  have e := pt_end ps p Q
  refine .mk f (fun x hx => ?_) (fun x hx => ?_)
  · rw [e] at hx ⊢
    obtain ⟨q1, q2, _⟩ := h1 x hx
    rw [List.append_assoc, pt_in q1]
    exact q2
  · rw [e] at hx
    rw [List.append_assoc]
    exact (h1 x hx).2.2 _
/-- A part without kids. -/
theorem leaf_v {g : Gr} {s s0 s' : PS} {p : Pt} {x k : Int} (e : putP s p x = .ok (k, s')) (hp : s.ps = s0.ps) (hn : s0.ns ≤ 32) (h : Tb s0.ps) (hk : p.kids = []) (h1 : kidsB p.kind 0 = true ∧ 1 ≤ p.kind ∧ p.kind ≤ 20 ∧ holdsB p.kind p.text p.num = true) (hc : clG g p.kind) (hx : exG g p.kind = 0) : ∃ y, Vy g s0.ns s0 s' k y := by
  unfold putP at e
  injection e with e
  injection e with e1 e2
  subst e2
  have e9 := pt_end s0.ps p []
  rw [List.append_nil] at e9
  refine ⟨s0.ps.length, by rw [← e1, hp], by simp [hp], ⟨[p], by simp [hp]⟩, ?_, ?_, 0, ?_, ?_⟩
  · show Tb (s.ps ++ [p])
    rw [hp]
    exact put_tb h (by rw [hk]; exact h1) (fun x hx => by rw [hk] at hx; cases hx)
  · show clG g (pt (s.ps ++ [p]) s0.ps.length).kind
    rw [hp, e9]
    exact hc
  · show HgE (s.ps ++ [p]) s0.ps.length 0
    rw [hp]
    exact put_hg (fun _ => 0) (fun x hx => by rw [hk] at hx; cases hx)
  · show s0.ns + 0 + exG g (pt (s.ps ++ [p]) s0.ps.length).kind ≤ 32
    rw [hp, e9, hx]
    omega
/-- The kids of a part that is to be put. -/
structure Kd (ps : List Pt) (ns : Nat) (k : Int) (ks : List Int) : Prop where
  ok : ∀ x, x ∈ ks → ∃ y h : Nat, x = (y : Int) ∧ y < ps.length ∧ clsB k (pt ps y).kind = true ∧ HgE ps y h ∧ ((ns : Int) + btw k (pt ps y).kind + (h : Int) ≤ 32)
theorem Kd.ext {ps : List Pt} {ns : Nat} {k : Int} {ks : List Int} (H : Kd ps ns k ks) (Q : List Pt) : Kd (ps ++ Q) ns k ks := ⟨fun x hx => by
  obtain ⟨y, h, e, h1, h2, h3, h4⟩ := H.ok x hx
  exact ⟨y, h, e, by rw [List.length_append]; omega, by rw [pt_in h1]; exact h2, h3.ext Q, by rw [pt_in h1]; exact h4⟩⟩
theorem Kd.app {ps : List Pt} {ns : Nat} {k : Int} {a b : List Int} (h1 : Kd ps ns k a) (h2 : Kd ps ns k b) : Kd ps ns k (a ++ b) := ⟨fun x hx => by
  rcases List.mem_append.1 hx with hx | hx
  · exact h1.ok x hx
  · exact h2.ok x hx⟩
theorem put_v {g : Gr} {s s0 s' : PS} {p : Pt} {x k : Int} (e : putP s p x = .ok (k, s')) (hq : ∃ Q, s.ps = s0.ps ++ Q) (hn : s0.ns ≤ 32) (h : Tb s.ps) (h1 : kidsB p.kind p.kids.length = true ∧ 1 ≤ p.kind ∧ p.kind ≤ 20 ∧ holdsB p.kind p.text p.num = true) (hK : Kd s.ps s0.ns p.kind p.kids) (hc : clG g p.kind) (hx : exG g p.kind = 0) : ∃ y, Vy g s0.ns s0 s' k y := by
  unfold putP at e
  injection e with e
  injection e with e1 e2
  subst e2
  have e9 := pt_end s.ps p []
  rw [List.append_nil] at e9
  have hf : ∃ f : Nat → Nat, ∀ y : Nat, (y : Int) ∈ p.kids → y < s.ps.length ∧ clsB p.kind (pt s.ps y).kind = true ∧ HgE s.ps y (f y) ∧ (s0.ns : Int) + btw p.kind (pt s.ps y).kind + (f y : Int) ≤ 32 := by
    have key : ∀ y : Nat, (y : Int) ∈ p.kids → ∃ h : Nat, y < s.ps.length ∧ clsB p.kind (pt s.ps y).kind = true ∧ HgE s.ps y h ∧ (s0.ns : Int) + btw p.kind (pt s.ps y).kind + (h : Int) ≤ 32 := fun y hy => by
      obtain ⟨y', h, e, q⟩ := hK.ok (y : Int) hy
      have e0 : y' = y := by omega
      subst e0
      exact ⟨h, q⟩
    refine ⟨fun y => if hy : (y : Int) ∈ p.kids then Classical.choose (key y hy) else 0, fun y hy => ?_⟩
    simp only [dif_pos hy]
    exact Classical.choose_spec (key y hy)
  obtain ⟨f, hf⟩ := hf
  obtain ⟨Q, hQ⟩ := hq
  refine ⟨s.ps.length, e1.symm, by simp, ⟨Q ++ [p], by show s.ps ++ [p] = _; rw [hQ, List.append_assoc]⟩, ?_, ?_, 32 - s0.ns, ?_, ?_⟩
  · refine put_tb h h1 (fun x hx => ?_)
    obtain ⟨y, h, rfl, q1, q2, _⟩ := hK.ok x hx
    exact ⟨by omega, by omega, by rw [show ((y : Int).toNat) = y by omega]; exact q2⟩
  · show clG g (pt (s.ps ++ [p]) s.ps.length).kind
    rw [e9]
    exact hc
  · show HgE (s.ps ++ [p]) s.ps.length (32 - s0.ns)
    refine put_hg f (fun y hy => ?_)
    obtain ⟨q1, q2, q3, q4⟩ := hf y hy
    exact ⟨q1, by omega, q3⟩
  · show s0.ns + (32 - s0.ns) + exG g (pt (s.ps ++ [p]) s.ps.length).kind ≤ 32
    rw [e9, hx]
    omega
end Go.Proofs.YtlhlpamciafocaaGreatDoor.L
namespace Go.Proofs.YtlhlpamciafocaaGreatDoor.L
open Go.RowKit Go.Shelf
set_option linter.unusedVariables false
set_option linter.unusedSimpArgs false
section
variable {T : List Tok}
/-- Numbers of tokens are small. -/
def Nmt (T : List Tok) : Prop := ∀ i, (tk T i).kind = 2 → -999999999999999999 ≤ (tk T i).num ∧ (tk T i).num ≤ 999999999999999999
theorem Vy.to {g : Gr} {ns : Nat} {s s' s2 : PS} {k : Int} {y : Nat} (v : Vy g ns s s' k y) (h : s2.ps = s'.ps) : Vy g ns s s2 k y := ⟨v.eq, by rw [h]; exact v.lt, by rw [h]; exact v.ext, by rw [h]; exact v.tb, by rw [h]; exact v.cl, by rw [h]; exact v.hg⟩
theorem Vy.of {g : Gr} {ns : Nat} {s s0 s' : PS} {k : Int} {y : Nat} (v : Vy g ns s s' k y) (h : s0.ps = s.ps) : Vy g ns s0 s' k y := ⟨v.eq, v.lt, by rw [h]; exact v.ext, v.tb, v.cl, v.hg⟩
theorem Vy.up {g g' : Gr} {n n' : Nat} {s s' : PS} {k : Int} {y : Nat} (v : Vy g n s s' k y) (h1 : ∀ q, clG g q → clG g' q ∧ n' + exG g' q ≤ n + exG g q) : Vy g' n' s s' k y := by
  obtain ⟨h, q1, q2⟩ := v.hg
  have h9 := h1 _ v.cl
  exact ⟨v.eq, v.lt, v.ext, v.tb, h9.1, h, q1, by omega⟩
theorem kd_one {g : Gr} {n ns : Nat} {s s' : PS} {k kd : Int} {y : Nat} (v : Vy g n s s' k y) (h1 : ∀ q, clG g q → clsB kd q = true ∧ (ns : Int) + btw kd q ≤ (n : Int) + (exG g q : Int)) : Kd s'.ps ns kd [k] := ⟨fun x hx => by
  rw [List.mem_singleton] at hx
  subst hx
  obtain ⟨h, q1, q2⟩ := v.hg
  have h9 := h1 _ v.cl
  exact ⟨y, h, v.eq, v.lt, h9.1, q1, by omega⟩⟩
theorem kd_nil (ps : List Pt) (ns : Nat) (k : Int) : Kd ps ns k [] := ⟨fun x hx => by cases hx⟩
theorem el_v (hT : Txt T) (hN : Nmt T) {s s' : PS} {k : Int} (ht : Tb s.ps) (hn : s.ns ≤ 32) (he : isEl (tk T s.nx) = true) (e : elP T s = .ok (k, s')) : ∃ y, Vy .term s.ns s s' k y ∧ ((pt s'.ps y).kind = 11 ∨ (pt s'.ps y).kind = 12) := by
  have e9 : ∀ p, pt (s.ps ++ [p]) s.ps.length = p := fun p => by have := pt_end s.ps p []; rwa [List.append_nil] at this
  have fin : ∀ p x, putP (adv s) p x = .ok (k, s') → p.kids = [] → (kidsB p.kind 0 = true ∧ 1 ≤ p.kind ∧ p.kind ≤ 20 ∧ holdsB p.kind p.text p.num = true) → (p.kind = 11 ∨ p.kind = 12) → ∃ y, Vy .term s.ns s s' k y ∧ ((pt s'.ps y).kind = 11 ∨ (pt s'.ps y).kind = 12) := fun p x e hk h1 h2 => by
    obtain ⟨y, v⟩ := leaf_v (g := .term) (s0 := s) e rfl hn ht hk h1 (by show 11 ≤ p.kind ∧ p.kind ≤ 20; omega) rfl
    refine ⟨y, v, ?_⟩
    have hv := v.eq
    unfold putP at e
    injection e with e
    injection e with e1 e2
    subst e2
    have ey : y = s.ps.length := by
      have : ((s.ps.length : Nat) : Int) = k := e1
      omega
    rw [ey]
    show (pt (s.ps ++ [p]) s.ps.length).kind = 11 ∨ (pt (s.ps ++ [p]) s.ps.length).kind = 12
    rw [e9]
    exact h2
  unfold elP at e
  by_cases h1 : (tk T s.nx).kind = 1
  · rw [if_pos h1] at e
    exact fin _ _ e rfl ⟨by simp [kidsB], by simp, by simp, by have := hT s.nx h1; simp [holdsB]; omega⟩ (Or.inl rfl)
  · rw [if_neg h1] at e
    have h2 : (tk T s.nx).kind = 2 := by
      unfold isEl at he
      simp [h1] at he
      exact he
    exact fin _ _ e rfl ⟨by simp [kidsB], by simp, by simp, by have := hN s.nx h2; simp [holdsB, ByteArray.toList_eq]; exact this⟩ (Or.inr rfl)
theorem mem_v (hT : Txt T) (hN : Nmt T) {s s' : PS} {k : Int} {n ns : Nat} (ht : Tb s.ps) (hns : s.ns = ns) (hn : ns ≤ 32) (e : memP T s n = .ok (k, s')) : (∃ Q, s'.ps = s.ps ++ Q) ∧ Tb s'.ps ∧ Kd s'.ps ns 13 [k] ∧ s'.ns = ns := by
  have hg := (gn_mem e).ns
  unfold memP at e
  split at e
  · rename_i he
    split at e
    · cases e
    · obtain ⟨y, v, hk⟩ := el_v hT hN ht (by omega) he e
      refine ⟨v.ext, v.tb, ⟨fun x hx => ?_⟩, by omega⟩
      rw [List.mem_singleton] at hx
      subst hx
      obtain ⟨h, q1, q2⟩ := v.hg
      refine ⟨y, h, v.eq, v.lt, by rcases hk with hk | hk <;> rw [hk] <;> decide, q1, ?_⟩
      have hb : btw 13 (pt s'.ps y).kind = 0 := by unfold btw opB brB; simp
      rw [hb]
      have : exG .term (pt s'.ps y).kind = 0 := rfl
      omega
  · cases e
theorem mems_v (hT : Txt T) (hN : Nmt T) {ns : Nat} (hn : ns ≤ 32) : ∀ (n : Nat) {ks ks' : List Int} {s s' : PS}, Tb s.ps → s.ns = ns → Kd s.ps ns 13 ks → memsP T n ks s = .ok (ks', s') → (∃ Q, s'.ps = s.ps ++ Q) ∧ Tb s'.ps ∧ Kd s'.ps ns 13 ks' ∧ s'.ns = ns
  | 0, ks, ks', s, s', ht, hns, hk, e => by
    injection e with e
    injection e with e1 e2
    subst e1 e2
    exact ⟨⟨[], by simp⟩, ht, hk, hns⟩
  | n + 1, ks, ks', s, s', ht, hns, hk, e => by
    unfold memsP at e
    split at e
    · obtain ⟨k, s1, e1, e2⟩ := bnd_inv e
      obtain ⟨⟨Q, hQ⟩, t1, k1, n1⟩ := mem_v hT hN (s := adv s) ht hns hn e1
      have hQ' : s1.ps = s.ps ++ Q := hQ
      obtain ⟨⟨Q2, hQ2⟩, t2, k2, n2⟩ := mems_v hT hN hn n t1 n1 (Kd.app (by rw [hQ']; exact hk.ext Q) k1) e2
      exact ⟨⟨Q ++ Q2, by rw [hQ2, hQ', List.append_assoc]⟩, t2, k2, n2⟩
    · injection e with e
      injection e with e1 e2
      subst e1 e2
      exact ⟨⟨[], by simp⟩, ht, hk, hns⟩
theorem mems_len : ∀ (n : Nat) {ks ks' : List Int} {s s' : PS}, ks.length ≤ 64 → memsP T n ks s = .ok (ks', s') → ks'.length ≤ 64
  | 0, ks, ks', s, s', h, e => by
    injection e with e
    injection e with e1 e2
    subst e1
    exact h
  | n + 1, ks, ks', s, s', h, e => by
    unfold memsP at e
    split at e
    · obtain ⟨k, s1, e1, e2⟩ := bnd_inv e
      refine mems_len n ?_ e2
      unfold memP at e1
      split at e1
      · split at e1
        · cases e1
        · simp; omega
      · cases e1
    · injection e with e
      injection e with e1 e2
      subst e1
      exact h
theorem set_v (hT : Txt T) (hN : Nmt T) : Vg .term (setP T) := by
  intro s k s' ht hn e
  unfold setP at e
  obtain ⟨u, s1, e1, e⟩ := bnd_inv e
  obtain ⟨ks, s2, e2, e⟩ := bnd_inv e
  obtain ⟨ks', s3, e3, e⟩ := bnd_inv e
  obtain ⟨u4, s4, e4, e⟩ := bnd_inv e
  have m1 := mark_ok e1
  have m4 := mark_ok e4
  have h2 : (∃ Q, s2.ps = s.ps ++ Q) ∧ Tb s2.ps ∧ Kd s2.ps s.ns 13 ks ∧ s2.ns = s.ns ∧ ks.length ≤ 1 := by
    split at e2
    · injection e2 with e2
      injection e2 with ea eb
      subst ea eb
      rw [m1]
      exact ⟨⟨[], by simp [adv]⟩, ht, kd_nil _ _ _, rfl, by simp⟩
    · obtain ⟨k0, sx, ex, ey⟩ := bnd_inv e2
      injection ey with ey
      injection ey with ea eb
      subst ea eb
      rw [m1] at ex
      obtain ⟨a, b, c, d⟩ := mem_v hT hN (s := adv s) ht rfl hn ex
      exact ⟨a, b, c, d, by simp⟩
  obtain ⟨⟨Q, hQ⟩, t2, k2, n2, l2⟩ := h2
  obtain ⟨⟨Q2, hQ2⟩, t3, k3, n3⟩ := mems_v hT hN hn 4097 t2 n2 k2 e3
  have hl : ks'.length ≤ 64 := by
    by_cases h64 : ks.length ≤ 64
    · exact mems_len 4097 h64 e3
    · omega
  refine put_v (g := .term) (s0 := s) e ⟨Q ++ Q2, by rw [m4]; show s3.ps = _; rw [hQ2, hQ, List.append_assoc]⟩ hn (by rw [m4]; exact t3) ⟨by simp [kidsB]; omega, by simp, by simp, by simp [holdsB, ByteArray.toList_eq]⟩ (by rw [m4]; exact k3) (by simp [clG]) rfl
end
end Go.Proofs.YtlhlpamciafocaaGreatDoor.L
namespace Go.Proofs.YtlhlpamciafocaaGreatDoor.L
open Go.RowKit Go.Shelf
set_option linter.unusedVariables false
set_option linter.unusedSimpArgs false
section
variable {T : List Tok}
theorem named_ps {s s' : PS} {t : ByteArray} (e : namedP T s = .ok (t, s')) : s'.ps = s.ps := by
  unfold namedP at e
  obtain ⟨u, s1, e1, e⟩ := bnd_inv e
  obtain ⟨t1, s2, e2, e⟩ := bnd_inv e
  obtain ⟨u3, s3, e3, e⟩ := bnd_inv e
  injection e with e
  injection e with _ e
  subst e
  rw [mark_ok e3, text_ok e2, mark_ok e1]
  rfl
theorem field_v {s s' : PS} {k : Int} (e : fieldP T s = .ok (k, s')) : s'.ps = s.ps ∧ (k = 15 ∨ k = 16 ∨ k = 17 ∨ k = 18) := by
  unfold fieldP at e
  split at e
  · cases e
  · rename_i h
    injection e with e
    injection e with e1 e2
    subst e1 e2
    refine ⟨rfl, ?_⟩
    unfold fieldO at h ⊢
    split at h
    · rename_i h3
      rw [if_pos h3]
      repeat' split
      all_goals first | omega | simp_all
    · exact absurd rfl h
theorem who_v (hT : Txt T) {side : Int} (hs : 1 ≤ side ∧ side ≤ 3) : Vg .term (fun s => whoP T s side) := by
  intro s k s' ht hn e
  have e : whoP T s side = .ok (k, s') := e
  unfold whoP at e
  split at e
  · obtain ⟨t, s1, e1, e⟩ := bnd_inv e
    obtain ⟨u, s2, e2, e⟩ := bnd_inv e
    exact leaf_v (g := .term) (s0 := s) e (by rw [mark_ok e2, text_ok e1]; rfl) hn ht rfl ⟨by simp [kidsB], by simp, by simp, by have := text_len hT e1; simp [holdsB]; omega⟩ (by simp [clG]) rfl
  · obtain ⟨u, s1, e1, e⟩ := bnd_inv e
    obtain ⟨f, s2, e2, e⟩ := bnd_inv e
    have hf := field_v e2
    have h12 : s2.ps = s.ps := by rw [hf.1, mark_ok e1]; rfl
    split at e
    · obtain ⟨t, s3, e3, e⟩ := bnd_inv e
      exact leaf_v (g := .term) (s0 := s) e (by rw [named_ps e3, h12]) hn ht rfl ⟨by simp [kidsB], by simp, by simp, by have := named_len hT e3; simp [holdsB]; omega⟩ (by simp [clG]) rfl
    · rename_i h18
      have hf3 : f = 15 ∨ f = 16 ∨ f = 17 := by have := hf.2; omega
      refine leaf_v (g := .term) (s0 := s) e h12 hn ht rfl ⟨?_, ?_, ?_, ?_⟩ ?_ rfl
      · rcases hf3 with rfl | rfl | rfl <;> simp [kidsB]
      · show 1 ≤ f; omega
      · show f ≤ 20; omega
      · rcases hf3 with rfl | rfl | rfl <;> simp [holdsB, ByteArray.toList_eq] <;> omega
      · show 11 ≤ f ∧ f ≤ 20; omega
theorem const_v {kk : Int} (hk : kk = 1 ∨ kk = 2) : Vg .unit (fun s => constP T s kk) := by
  intro s k s' ht hn e
  have e : putP (adv s) ⟨kk, ⟨#[]⟩, 0, []⟩ _ = .ok (k, s') := e
  refine leaf_v (g := .unit) (s0 := s) e rfl hn ht rfl ⟨?_, ?_, ?_, ?_⟩ ?_ ?_
  · rcases hk with rfl | rfl <;> simp [kidsB]
  · show 1 ≤ kk; omega
  · show kk ≤ 20; omega
  · rcases hk with rfl | rfl <;> simp [holdsB, ByteArray.toList_eq]
  · show 1 ≤ kk ∧ kk ≤ 10; omega
  · rcases hk with rfl | rfl <;> rfl
theorem tol_v (hT : Txt T) : Vg .unit (fun s => tolP T s) := by
  intro s k s' ht hn e
  have e : tolP T s = .ok (k, s') := e
  unfold tolP at e
  obtain ⟨t, s1, e1, e⟩ := bnd_inv e
  exact leaf_v (g := .unit) (s0 := s) e (by rw [named_ps e1]; rfl) hn ht rfl ⟨by simp [kidsB], by simp, by simp, by have := named_len hT e1; simp [holdsB]; omega⟩ (by simp [clG]) rfl
theorem open_ns {s s' : PS} {m : List UInt8} {u : Unit} (h : openP T s m = .ok (u, s')) : s.ns ≠ 32 := by
  unfold openP at h
  split at h
  · split at h
    · cases h
    · assumption
  · cases h
theorem with_v {α : Type} {inn : PS → PRes α} {s s' : PS} {a : α} (e : withP T inn s = .ok (a, s')) : ∃ s1 s2, s1.ps = s.ps ∧ s1.ns = s.ns + 1 ∧ s.ns ≠ 32 ∧ inn s1 = .ok (a, s2) ∧ s'.ps = s2.ps := by
  unfold withP at e
  obtain ⟨u, s1, e1, e⟩ := bnd_inv e
  obtain ⟨k, s2, e2, e⟩ := bnd_inv e
  obtain ⟨u3, s3, e3, e⟩ := bnd_inv e
  injection e with e
  injection e with ea eb
  subst ea
  subst eb
  exact ⟨s1, s2, by rw [open_ok e1]; rfl, by rw [open_ok e1], open_ns e1, e2, by rw [mark_ok e3]; rfl⟩
theorem group_v {ex : PS → PRes Int} (h : Vg .expr ex) : Vg .unit (withP T ex) := by
  intro s k s' ht hn e
  obtain ⟨s1, s2, p1, n1, n32, e1, p2⟩ := with_v e
  obtain ⟨y, v⟩ := h s1 k s2 (by rw [p1]; exact ht) (by omega) e1
  have v2 := (v.to p2).of (s0 := s) p1.symm
  refine ⟨y, v2.up fun q hq => ⟨hq, ?_⟩⟩
  have : exG .unit q ≤ 1 := by show (if q = 4 ∨ q = 5 then 1 else 0) ≤ 1; split <;> omega
  have : exG .expr q = 0 := rfl
  omega
theorem sel_v (hT : Txt T) {ex : PS → PRes Int} (h : Vg .expr ex) {kd : Int} {g : Gr} (hk : (kd = 8 ∧ g = .unit) ∨ (kd = 9 ∧ g = .unit) ∨ (kd = 20 ∧ g = .term)) : Vg g (selP T ex kd) := by
  intro s k s' ht hn e
  unfold selP at e
  obtain ⟨q, s5, e5, e⟩ := bnd_inv e
  obtain ⟨s1, s2, p1, n1, n32, e1, p2⟩ := with_v e5
  obtain ⟨t, s3, f1, e1⟩ := bnd_inv e1
  obtain ⟨u, s4, f2, e1⟩ := bnd_inv e1
  obtain ⟨r, s6, f3, e1⟩ := bnd_inv e1
  injection e1 with e1
  injection e1 with ea eb
  subst ea eb
  have p4 : s4.ps = s.ps := by rw [mark_ok f2, text_ok f1]; exact p1
  have n4 : s4.ns = s.ns + 1 := by rw [mark_ok f2, text_ok f1]; exact n1
  have n32' : s.ns ≠ 32 := n32
  obtain ⟨y, v⟩ := h s4 r s6 (by rw [p4]; exact ht) (by omega) f3
  have hext := v.ext
  rw [p4] at hext
  have hK : Kd s6.ps s.ns kd [r] := kd_one v fun q hq => by
    have hq : 1 ≤ q ∧ q ≤ 10 := hq
    have e0 : (exG .expr q : Int) = 0 := rfl
    rcases hk with ⟨rfl, _⟩ | ⟨rfl, _⟩ | ⟨rfl, _⟩ <;> exact ⟨by simp [clsB] <;> omega, by rw [e0, n4]; simp [btw, opB, brB] <;> omega⟩
  refine put_v (g := g) (s0 := s) e (by rw [p2]; exact hext) hn (by rw [p2]; exact v.tb) ⟨?_, ?_, ?_, ?_⟩ (by rw [p2]; exact hK) ?_ ?_
  · rcases hk with ⟨rfl, _⟩ | ⟨rfl, _⟩ | ⟨rfl, _⟩ <;> simp [kidsB]
  · show 1 ≤ kd; omega
  · show kd ≤ 20; omega
  · have := text_len hT f1
    rcases hk with ⟨rfl, _⟩ | ⟨rfl, _⟩ | ⟨rfl, _⟩ <;> simp [holdsB] <;> omega
  · rcases hk with ⟨rfl, rfl⟩ | ⟨rfl, rfl⟩ | ⟨rfl, rfl⟩ <;> simp [clG]
  · rcases hk with ⟨rfl, rfl⟩ | ⟨rfl, rfl⟩ | ⟨rfl, rfl⟩ <;> rfl
theorem int_v {te : PS → PRes Int} (h : Vg .term te) : Vg .term (fun s => bnd (withP T te (adv s)) fun k s1 => putP s1 ⟨19, ⟨#[]⟩, 0, [k]⟩ ((tk T s.nx).a : Int)) := by
  intro s k s' ht hn e
  obtain ⟨q, s5, e5, e⟩ := bnd_inv e
  obtain ⟨s1, s2, p1, n1, n32, e1, p2⟩ := with_v e5
  have p1' : s1.ps = s.ps := p1
  have n1' : s1.ns = s.ns + 1 := n1
  have n32' : s.ns ≠ 32 := n32
  obtain ⟨y, v⟩ := h s1 q s2 (by rw [p1']; exact ht) (by omega) e1
  have hext := v.ext
  rw [p1'] at hext
  have hK : Kd s2.ps s.ns 19 [q] := kd_one v fun q hq => by
    have hq : 11 ≤ q ∧ q ≤ 20 := hq
    have e0 : (exG .term q : Int) = 0 := rfl
    exact ⟨by simp [clsB] <;> omega, by rw [e0, n1']; simp [btw, opB, brB] <;> omega⟩
  exact put_v (g := .term) (s0 := s) e (by rw [p2]; exact hext) hn (by rw [p2]; exact v.tb) ⟨by simp [kidsB], by simp, by simp, by simp [holdsB, ByteArray.toList_eq]⟩ (by rw [p2]; exact hK) (by simp [clG]) rfl
theorem br_unit {q : Int} : btw 3 q = 1 + (exG .unit q : Int) ∧ btw 4 q = (exG .unit q : Int) ∧ btw 5 q = (exG .conj q : Int) := by
  unfold btw opB brB exG
  by_cases h4 : q = 4
  · subst h4; decide
  · by_cases h5 : q = 5
    · subst h5; decide
    · simp [h4, h5]
theorem neg_v {un : PS → PRes Int} (h : Vg .unit un) : Vg .unit (negP T un) := by
  intro s k s' ht hn e
  unfold negP at e
  obtain ⟨u, s1, e1, e⟩ := bnd_inv e
  obtain ⟨q, s2, e2, e⟩ := bnd_inv e
  have p1 : s1.ps = s.ps := by rw [open_ok e1]; rfl
  have n1 : s1.ns = s.ns + 1 := by rw [open_ok e1]
  have n32 := open_ns e1
  obtain ⟨y, v⟩ := h s1 q s2 (by rw [p1]; exact ht) (by omega) e2
  have hext := v.ext
  rw [p1] at hext
  have hK : Kd s2.ps s.ns 3 [q] := kd_one v fun q hq => by
    have hq : 1 ≤ q ∧ q ≤ 10 := hq
    exact ⟨by simp [clsB] <;> omega, by rw [br_unit.1, n1]; omega⟩
  exact put_v (g := .unit) (s0 := s) e hext hn v.tb ⟨by simp [kidsB], by simp, by simp, by simp [holdsB, ByteArray.toList_eq]⟩ hK (by simp [clG]) rfl
end
end Go.Proofs.YtlhlpamciafocaaGreatDoor.L
namespace Go.Proofs.YtlhlpamciafocaaGreatDoor.L
open Go.RowKit Go.Shelf
set_option linter.unusedVariables false
set_option linter.unusedSimpArgs false
section
variable {T : List Tok}
theorem bet_v {t : Tok} {kd nu : Int} (h : betO t = some (kd, nu)) : (kd = 6 ∧ 1 ≤ nu ∧ nu ≤ 6) ∨ (kd = 7 ∧ (nu = 0 ∨ nu = 1)) := by
  unfold betO at h
  split at h
  · split at h
    · cases h
    · rename_i hc
      injection h with h
      injection h with h1 h2
      left
      refine ⟨h1.symm, ?_⟩
      rw [← h2]
      unfold cmpO at hc ⊢
      repeat' split
      all_goals first | omega | simp_all
  · split at h
    · split at h
      · injection h with h
        injection h with h1 h2
        exact Or.inr ⟨h1.symm, Or.inl h2.symm⟩
      · split at h
        · injection h with h
          injection h with h1 h2
          exact Or.inr ⟨h1.symm, Or.inr h2.symm⟩
        · cases h
    · cases h
theorem comp_v {te : PS → PRes Int} (h : Vg .term te) (hs : Sn te) : Vg .unit (compP T te) := by
  intro s k s' ht hn e
  unfold compP at e
  obtain ⟨l, s1, e1, e⟩ := bnd_inv e
  split at e
  · cases e
  · rename_i kd nu hb
    have hb := bet_v hb
    obtain ⟨r, s2, e2, e⟩ := bnd_inv e
    have n1 := hs _ _ _ e1
    obtain ⟨y1, v1⟩ := h s l s1 ht hn e1
    obtain ⟨y2, v2⟩ := h (adv s1) r s2 v1.tb (by show s1.ns ≤ 32; omega) e2
    obtain ⟨Q1, q1⟩ := v1.ext
    obtain ⟨Q2, q2⟩ := v2.ext
    have q2 : s2.ps = s1.ps ++ Q2 := q2
    have hbt : ∀ q, btw kd q = 0 := fun q => by rcases hb with ⟨rfl, _⟩ | ⟨rfl, _⟩ <;> simp [btw, opB, brB]
    have hcl : ∀ q, clG .term q → clsB kd q = true := fun q hq => by
      have hq : 11 ≤ q ∧ q ≤ 20 := hq
      rcases hb with ⟨rfl, _⟩ | ⟨rfl, _⟩ <;> simp [clsB] <;> omega
    have k1 : Kd s1.ps s.ns kd [l] := kd_one v1 fun q hq => ⟨hcl q hq, by rw [hbt]; omega⟩
    have k2 : Kd s2.ps s.ns kd [r] := kd_one v2 fun q hq => ⟨hcl q hq, by rw [hbt]; show (s.ns : Int) + 0 ≤ (s1.ns : Int) + _; omega⟩
    refine put_v (g := .unit) (s0 := s) e ⟨Q1 ++ Q2, by rw [q2, q1, List.append_assoc]⟩ hn v2.tb ⟨?_, ?_, ?_, ?_⟩ ?_ ?_ ?_
    · rcases hb with ⟨rfl, _⟩ | ⟨rfl, _⟩ <;> simp [kidsB]
    · show 1 ≤ kd; omega
    · show kd ≤ 20; omega
    · rcases hb with ⟨rfl, hz⟩ | ⟨rfl, hz⟩
      · simp [holdsB, ByteArray.toList_eq]; omega
      · simp [holdsB, ByteArray.toList_eq]; exact hz
    · show Kd s2.ps s.ns kd ([l] ++ [r])
      exact Kd.app (by rw [q2]; exact k1.ext Q2) k2
    · show 1 ≤ kd ∧ kd ≤ 10; omega
    · rcases hb with ⟨rfl, _⟩ | ⟨rfl, _⟩ <;> rfl
theorem rows_v {g1 : Gr} {one : PS → PRes Int} {m : List UInt8} {kd : Int} {ns : Nat} (h : Vg g1 one) (hs : Sn one) (hn : ns ≤ 32) (hcl : ∀ q, clG g1 q → clsB kd q = true ∧ (ns : Int) + btw kd q ≤ (ns : Int) + (exG g1 q : Int)) : ∀ (n : Nat) {ks ks' : List Int} {s s' : PS}, Tb s.ps → s.ns = ns → Kd s.ps ns kd ks → rowsP T one m n ks s = .ok (ks', s') → (∃ Q, s'.ps = s.ps ++ Q) ∧ Tb s'.ps ∧ Kd s'.ps ns kd ks' ∧ ((ks' = ks ∧ s' = s) ∨ ks.length < ks'.length)
  | 0, ks, ks', s, s', ht, hns, hk, e => by
    injection e with e
    injection e with e1 e2
    subst e1 e2
    exact ⟨⟨[], by simp⟩, ht, hk, Or.inl ⟨rfl, rfl⟩⟩
  | n + 1, ks, ks', s, s', ht, hns, hk, e => by
    unfold rowsP at e
    split at e
    · obtain ⟨k, s1, e1, e2⟩ := bnd_inv e
      obtain ⟨y, v⟩ := h (adv s) k s1 ht (by show s.ns ≤ 32; omega) e1
      have n1 : s1.ns = (adv s).ns := hs _ _ _ e1
      have n1 : s1.ns = s.ns := n1
      obtain ⟨Q, hQ⟩ := v.ext
      have hQ' : s1.ps = s.ps ++ Q := hQ
      have k1 : Kd s1.ps ns kd [k] := kd_one v fun q hq => ⟨(hcl q hq).1, by have := (hcl q hq).2; show _ ≤ ((s.ns : Nat) : Int) + _; omega⟩
      obtain ⟨⟨Q2, hQ2⟩, t2, k2, hl⟩ := rows_v h hs hn hcl n v.tb (by omega) (Kd.app (by rw [hQ']; exact hk.ext Q) k1) e2
      refine ⟨⟨Q ++ Q2, by rw [hQ2, hQ', List.append_assoc]⟩, t2, k2, Or.inr ?_⟩
      rcases hl with ⟨rfl, _⟩ | hl
      · simp
      · simp at hl; omega
    · injection e with e
      injection e with e1 e2
      subst e1 e2
      exact ⟨⟨[], by simp⟩, ht, hk, Or.inl ⟨rfl, rfl⟩⟩
theorem row_v {g g1 : Gr} {one : PS → PRes Int} {m : List UInt8} {kd : Int} (h : Vg g1 one) (hs : Sn one) (hk : (kd = 4 ∧ g1 = .unit ∧ g = .conj) ∨ (kd = 5 ∧ g1 = .conj ∧ g = .expr)) : Vg g (rowP T one kd m) := by
  intro s k s' ht hn e
  unfold rowP at e
  obtain ⟨k0, s1, e1, e⟩ := bnd_inv e
  obtain ⟨ks, s2, e2, e⟩ := bnd_inv e
  obtain ⟨y, v⟩ := h s k0 s1 ht hn e1
  have n1 := hs _ _ _ e1
  have hcl : ∀ q, clG g1 q → clsB kd q = true ∧ (s.ns : Int) + btw kd q ≤ (s.ns : Int) + (exG g1 q : Int) := fun q hq => by
    rcases hk with ⟨rfl, rfl, _⟩ | ⟨rfl, rfl, _⟩
    · have hq : 1 ≤ q ∧ q ≤ 10 := hq
      exact ⟨by simp [clsB] <;> omega, by rw [br_unit.2.1]; exact Int.le_refl _⟩
    · have hq : 1 ≤ q ∧ q ≤ 10 := hq
      exact ⟨by simp [clsB] <;> omega, by rw [br_unit.2.2]; exact Int.le_refl _⟩
  obtain ⟨⟨Q2, hQ2⟩, t2, k2, hl⟩ := rows_v h hs hn hcl 4097 v.tb n1 (kd_one v hcl) e2
  split at e
  · rename_i h1
    injection e with e
    injection e with ea eb
    subst ea
    subst eb
    rcases hl with ⟨_, rfl⟩ | hl
    · refine ⟨y, v.up fun q hq => ?_⟩
      rcases hk with ⟨rfl, rfl, rfl⟩ | ⟨rfl, rfl, rfl⟩
      · refine ⟨hq, ?_⟩
        show s.ns + (if q = 5 then 1 else 0) ≤ s.ns + (if q = 4 ∨ q = 5 then 1 else 0)
        split <;> split <;> omega
      · refine ⟨hq, ?_⟩
        show s.ns + 0 ≤ _
        omega
    · rw [h1] at hl
      simp at hl
  · rename_i h1
    obtain ⟨Q, hQ⟩ := v.ext
    have hlen : 2 ≤ ks.length := by
      rcases hl with ⟨rfl, _⟩ | hl
      · exact absurd rfl h1
      · simp at hl; omega
    refine put_v (g := g) (s0 := s) e ⟨Q ++ Q2, by rw [hQ2, hQ, List.append_assoc]⟩ hn t2 ⟨?_, ?_, ?_, ?_⟩ k2 ?_ ?_
    · rcases hk with ⟨rfl, _⟩ | ⟨rfl, _⟩ <;> simp [kidsB] <;> omega
    · show 1 ≤ kd; omega
    · show kd ≤ 20; omega
    · rcases hk with ⟨rfl, _⟩ | ⟨rfl, _⟩ <;> simp [holdsB, ByteArray.toList_eq]
    · rcases hk with ⟨rfl, _, rfl⟩ | ⟨rfl, _, rfl⟩ <;> simp [clG]
    · rcases hk with ⟨rfl, _, rfl⟩ | ⟨rfl, _, rfl⟩ <;> rfl
theorem atom_v (hT : Txt T) {ex te : PS → PRes Int} (h1 : Vg .expr ex) (h2 : Vg .term te) (hs : Sn te) : Vg .unit (atomP T ex te) := by
  intro s k s' ht hn e
  unfold atomP at e
  split at e
  · split at e
    · exact const_v (Or.inl rfl) s k s' ht hn e
    · split at e
      · exact const_v (Or.inr rfl) s k s' ht hn e
      · split at e
        · exact sel_v hT h1 (Or.inl ⟨rfl, rfl⟩) s k s' ht hn e
        · split at e
          · exact sel_v hT h1 (Or.inr (Or.inl ⟨rfl, rfl⟩)) s k s' ht hn e
          · split at e
            · exact tol_v hT s k s' ht hn e
            · exact comp_v h2 hs s k s' ht hn e
  · exact comp_v h2 hs s k s' ht hn e
theorem word_v (hT : Txt T) {ex te : PS → PRes Int} (h1 : Vg .expr ex) (h2 : Vg .term te) : Vg .term (wordP T ex te) := by
  intro s k s' ht hn e
  unfold wordP at e
  split at e
  · exact who_v hT (by omega) s k s' ht hn e
  · split at e
    · exact who_v hT (by omega) s k s' ht hn e
    · split at e
      · exact who_v hT (by omega) s k s' ht hn e
      · split at e
        · exact int_v h2 s k s' ht hn e
        · split at e
          · exact sel_v hT h1 (Or.inr (Or.inr ⟨rfl, rfl⟩)) s k s' ht hn e
          · cases e
theorem gr_v (hT : Txt T) (hN : Nmt T) : ∀ (n : Nat) (g : Gr), Vg g (gr T n g)
  | 0, g => fun s k s' _ _ e => by cases g <;> cases e
  | n + 1, .expr => row_v (gr_v hT hN n .conj) (sn_gr n .conj) (Or.inr ⟨rfl, rfl, rfl⟩)
  | n + 1, .conj => row_v (gr_v hT hN n .unit) (sn_gr n .unit) (Or.inl ⟨rfl, rfl, rfl⟩)
  | n + 1, .unit => fun s k s' ht hn e => by
    have e : unitP T (gr T n .expr) (gr T n .unit) (gr T n .term) s = .ok (k, s') := e
    unfold unitP at e
    split at e
    · exact neg_v (gr_v hT hN n .unit) s k s' ht hn e
    · split at e
      · exact group_v (gr_v hT hN n .expr) s k s' ht hn e
      · exact atom_v hT (gr_v hT hN n .expr) (gr_v hT hN n .term) (sn_gr n .term) s k s' ht hn e
  | n + 1, .term => fun s k s' ht hn e => by
    have e : termP T (gr T n .expr) (gr T n .term) s = .ok (k, s') := e
    unfold termP at e
    split at e
    · rename_i he
      obtain ⟨y, v, _⟩ := el_v hT hN ht hn he e
      exact ⟨y, v⟩
    · split at e
      · exact set_v hT hN s k s' ht hn e
      · split at e
        · exact word_v hT (gr_v hT hN n .expr) (gr_v hT hN n .term) s k s' ht hn e
        · cases e
end
end Go.Proofs.YtlhlpamciafocaaGreatDoor.L
namespace Go.Proofs.YtlhlpamciafocaaGreatDoor.L
open Go.RowKit Go.Shelf
set_option linter.unusedVariables false
set_option linter.unusedSimpArgs false
theorem val_lt : ∀ (l : List UInt8) (n : Nat), allD l = true → valF n l < (n + 1) * 10 ^ l.length
  | [], n, _ => by simp [valF]
  | c :: r, n, h => by
    unfold allD at h
    simp only [List.all_cons, Bool.and_eq_true] at h
    have hc := (dig_nat c).1 h.1
    have ih := val_lt r (n * 10 + (c.toNat - 48)) h.2
    show valF (n * 10 + (c.toNat - 48)) r < _
    rw [List.length_cons, Nat.pow_succ]
    have h2 : (n * 10 + (c.toNat - 48) + 1) * 10 ^ r.length ≤ ((n + 1) * 10) * 10 ^ r.length := Nat.mul_le_mul_right _ (by omega)
    have h3 : (n + 1) * 10 * 10 ^ r.length = (n + 1) * (10 ^ r.length * 10) := by rw [Nat.mul_assoc, Nat.mul_comm 10]
    omega
theorem num_le {t : ByteArray} {z : Int} (h : numS t = some z) : -999999999999999999 ≤ z ∧ z ≤ 999999999999999999 := by
  unfold numS at h
  split at h
  · split at h
    · cases h
    · injection h with h; omega
  · split at h
    · cases h
    · rename_i hc
      injection h with h
      have h18 : (dgs t).length ≤ 18 := by
        apply Classical.byContradiction
        intro hn
        exact hc (Or.inl (by omega))
      have hall : allD (dgs t) = true := by
        cases hb : allD (dgs t)
        · exact absurd (Or.inr (Or.inr (Or.inr hb))) hc
        · rfl
      have hv := val_lt (dgs t) 0 hall
      have hp : 10 ^ (dgs t).length ≤ 10 ^ 18 := Nat.pow_le_pow_right (by decide) h18
      have h10 : (10 : Nat) ^ 18 = 1000000000000000000 := by decide
      rw [h10] at hp
      split at h <;> omega
theorem tok_num {s : ByteArray} {k : Nat} {t : Tok} (h : tokS s k = .ok t) (hk : t.kind = 2) : -999999999999999999 ≤ t.num ∧ t.num ≤ 999999999999999999 := by
  unfold tokS at h
  split at h
  · cases hx : txS s k (k + 1) [] with
    | bad c a => rw [hx] at h; exact RR.noConfusion h
    | ok l e => rw [hx] at h; rw [← RR.ok.inj h] at hk; exact absurd hk (show ¬ (1 : Nat) = 2 by decide)
  · split at h
    · unfold numTok at h
      split at h
      · cases h
      · rename_i z hz
        rw [← RR.ok.inj h]
        exact num_le hz
    · split at h
      · rw [← RR.ok.inj h] at hk; exact absurd hk (show ¬ (3 : Nat) = 2 by decide)
      · unfold markS at h
        split at h
        · rw [← RR.ok.inj h] at hk; exact absurd hk (show ¬ (4 : Nat) = 2 by decide)
        · split at h
          · rw [← RR.ok.inj h] at hk; exact absurd hk (show ¬ (4 : Nat) = 2 by decide)
          · cases h
theorem scan_nmt {src : ByteArray} (h : (scanT src).2 = none) : Nmt (scanT src).1 := fun i hk => by
  have h1 := tk_spec h (i := i) (by rw [hk]; decide)
  exact tok_num h1.2.2.1 hk
theorem chn_all {P : List Pt} {D : Nat → Prop} (hstep : ∀ y, D y → ∀ x : Nat, (x : Int) ∈ (pt P y).kids → D x) {a b : Nat} {l : List Int} (h : Chn P a l b) : (∀ x : Nat, (x : Int) ∈ l → D x) → ∀ j, a ≤ j → j < b → D j := by
  induction h with
  | nil a => intro _ j h1 h2; omega
  | @cons a y b r h1 h2 ih1 ih2 =>
    intro hD j hj1 hj2
    have hy := hD y (by simp)
    by_cases e1 : j < y
    · exact ih1 (fun x hx => hstep y hy x hx) j hj1 e1
    · by_cases e2 : j = y
      · rw [e2]; exact hy
      · exact ih2 (fun x hx => hD x (by simp [hx])) j (by omega) hj2
/-- EVERY TREE THAT IS READ IS VALID. -/
theorem valid_of {src : ByteArray} {s : PS} (h : parR src = .ok s) : Res s.ps 0 0 := by
  have R := either_ok h
  unfold parR at h
  cases hs : (scanT src).2 with
  | some q => obtain ⟨c, a⟩ := q; rw [hs] at h; cases h
  | none =>
    rw [hs] at h
    simp only at h
    cases hw : wholeP (scanT src).1 16392 with
    | error q => rw [hw] at h; cases h
    | ok q =>
      obtain ⟨u, s1⟩ := q
      rw [hw] at h
      simp only [Except.ok.injEq] at h
      subst h
      unfold wholeP at hw
      obtain ⟨k, s2, e1, e2⟩ := bnd_inv hw
      have g := fo_gr (scan_txt hs) _ _ _ _ _ _ (gs_zero _) e1
      obtain ⟨y, v⟩ := gr_v (scan_txt hs) (scan_nmt hs) 16392 .expr ⟨0, 0, [], []⟩ k s2 (fun j hj => absurd hj (Nat.not_lt_zero _)) (by decide) e1
      split at e2
      · split at e2
        · cases e2
        · injection e2 with e2; injection e2 with _ e2; subst e2
          have hf := fre_last _ g.fr
          have hy : y = s2.ps.length - 1 := by have := v.eq; have := hf.1; omega
          have hok : Ok0 s2.ps := fun j hj => by
            obtain ⟨a1, a2, a3, a4, a5⟩ := v.tb j hj
            have r := R.ok j hj
            exact ⟨r.1, r.2.1, a1, a2, a3, a4, fun x hx => (a5 x hx).2.2⟩
          have hl : ¬ Lst s2.ps := by
            unfold Lst
            have h9 := R.top
            have hc : 1 ≤ (pt s2.ps y).kind ∧ (pt s2.ps y).kind ≤ 10 := v.cl
            rw [hy] at hc
            omega
          have hn0 := nest_root hok (by have := hf.2; omega)
          obtain ⟨hh, H, hle⟩ := v.hg
          have hH := H []
          rw [List.append_nil] at hH
          have hD0 : (∃ h : Nat, Hg s2.ps y h ∧ (nests s2.ps).getD y 0 + (h : Int) ≤ 32) := ⟨hh, hH, by rw [hy, hn0]; have : (0 : Nat) + hh + exG .expr (pt s2.ps y).kind ≤ 32 := hle; omega⟩
          have hstep : ∀ y, (y < s2.ps.length ∧ ∃ h : Nat, Hg s2.ps y h ∧ (nests s2.ps).getD y 0 + (h : Int) ≤ 32) → ∀ x : Nat, (x : Int) ∈ (pt s2.ps y).kids → (x < s2.ps.length ∧ ∃ h : Nat, Hg s2.ps x h ∧ (nests s2.ps).getD x 0 + (h : Int) ≤ 32) := by
            rintro y ⟨hyl, h, hg, hle⟩ x hx
            have hlt := (hok y hyl).lt hx
            cases hg with
            | mk f q1 q2 =>
              have := q1 x hx
              exact ⟨by omega, f x, q2 x hx, by rw [nest_kid hok hx hyl]; omega⟩
          have hc := chn_fre hok s2.ps.length (Nat.le_refl _)
          rw [g.fr] at hc
          have hall := chn_all (D := fun y => y < s2.ps.length ∧ ∃ h : Nat, Hg s2.ps y h ∧ (nests s2.ps).getD y 0 + (h : Int) ≤ 32) hstep hc (fun x hx => by
            have hx : (x : Int) = k := by simpa using hx
            have e : x = y := by have := v.eq; omega
            rw [e]
            exact ⟨v.lt, hD0⟩)
          refine Or.inr (Or.inr ⟨by have := hf.2; omega, R.most, Or.inr (Or.inr ⟨hok, hl, Or.inr ⟨fun j hj => ?_, rfl, rfl⟩⟩)⟩)
          obtain ⟨_, h, _, h9⟩ := hall j (Nat.zero_le _) hj
          omega
      · cases e2
end Go.Proofs.YtlhlpamciafocaaGreatDoor.L
