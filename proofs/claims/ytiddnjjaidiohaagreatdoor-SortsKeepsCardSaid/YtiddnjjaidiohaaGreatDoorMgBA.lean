import Derived.Test.YtiddnjjaidiohaaGreatDoorMgAW
namespace Go.Proofs.YtiddnjjaidiohaaGreatDoor.L
open Go.RowKit
set_option linter.unusedVariables false
/-- A part that stands o places further on. -/
def shf (o : Nat) (p : Pt) : Pt := ⟨p.kind, p.text, p.num, p.kids.map (· + (o : Int))⟩
/-- The tree A stands in U from o on. -/
structure Emb (A U : List Pt) (o : Nat) : Prop where
  len : o + A.length ≤ U.length
  at' : ∀ j, j < A.length → pt U (o + j) = shf o (pt A j)
theorem jn_map {si si' : Nat → Int} {o : Nat} : ∀ {ks : List Int} {a : Int}, (∀ x ∈ ks, si' (x + (o : Int)).toNat = si x.toNat) → jnO si' (ks.map (· + (o : Int))) a = jnO si ks a
  | [], _, _ => rfl
  | x :: r, a, h => by
    have hx := h x (List.mem_cons_self ..)
    simp only [List.map_cons, jnO, hx]
    rw [jn_map (fun y hy => h y (List.mem_cons_of_mem _ hy))]
def shE (o : Nat) (e : Nat × Int) : Nat × Int := (e.1, e.2 + (o : Int))
theorem al_map {so so' : Nat → Int} {s0 : Int} {o : Nat} : ∀ {ks : List Int}, (∀ x ∈ ks, so' (x + (o : Int)).toNat = so x.toNat) → alO so' s0 (ks.map (· + (o : Int))) = (alO so s0 ks).map (shE o)
  | [], _ => rfl
  | x :: r, h => by
    have hx := h x (List.mem_cons_self ..)
    simp only [List.map_cons, alO, hx]
    split
    · exact al_map (fun y hy => h y (List.mem_cons_of_mem _ hy))
    · rfl
theorem all_map {si si' : Nat → Int} {o : Nat} {ks : List Int} (h : ∀ x ∈ ks, si' (x + (o : Int)).toNat = si x.toNat) : (ks.map (· + (o : Int))).all (fun x => movB (si' x.toNat)) = ks.all (fun x => movB (si x.toNat)) := by
  rw [Bool.eq_iff_iff, List.all_eq_true, List.all_eq_true]
  constructor
  · intro hh x hx
    have := hh (x + (o : Int)) (List.mem_map.2 ⟨x, hx, rfl⟩)
    rwa [h x hx] at this
  · intro hh y hy
    obtain ⟨x, hx, rfl⟩ := List.mem_map.1 hy
    rw [h x hx]
    exact hh x hx
theorem emb_ty {A U : List Pt} {o : Nat} (he : Emb A U o) (hA : GdS A) (hU : GdS U) : ∀ j, j < A.length → tyF U (o + j) = tyF A j := by
  intro j
  induction j using Nat.strongRecOn with
  | _ j ih =>
    intro hj
    have hl := he.len
    rw [tyF_is hU (by omega), tyF_is hA hj]
    unfold tyS
    rw [he.at' j hj]
    have hk : ∀ x ∈ (pt A j).kids, tyF U (x + (o : Int)).toNat = tyF A x.toNat := fun x hx => by
      have := hA.kid j hj x hx
      have e : (x + (o : Int)).toNat = o + x.toNat := by omega
      rw [e]
      exact ih _ (by omega) (by omega)
    simp only [shf, List.length_map]
    rw [jn_map (si := fun j => (tyF A j).2) (fun x hx => by simp only [hk x hx])]
    congr 1
    generalize (pt A j).kids = ks at *
    cases ks with
    | nil =>
      simp only [List.length_nil, srO]
      rfl
    | cons x r =>
      simp only [List.map_cons, List.getD_cons_zero]
      rw [hk x (List.mem_cons_self ..)]
theorem emb_br {A U : List Pt} {o : Nat} (he : Emb A U o) (hA : GdS A) (hU : GdS U) {j : Nat} (hj : j < A.length) (s : Int) : brF U s (o + j) = (brF A s j).map (shE o) := by
  have hl := he.len
  have hk : ∀ x ∈ (pt A j).kids, tyF U (x + (o : Int)).toNat = tyF A x.toNat := fun x hx => by
    have := hA.kid j hj x hx
    have e : (x + (o : Int)).toNat = o + x.toNat := by omega
    rw [e]
    exact emb_ty he hA hU _ (by omega)
  have hs := hA.shp j hj
  have hkd := hA.kid j hj
  unfold brF brO
  rw [he.at' j hj]
  by_cases h6 : (pt A j).kind = 6
  · obtain ⟨x, y, hks⟩ := hs.1 (.inl h6)
    rw [if_pos (show (shf o (pt A j)).kind = 6 from h6), if_pos h6]
    simp only [shf]
    rw [hks]
    have hx := hk x (by rw [hks]; simp)
    have hy := hk y (by rw [hks]; simp)
    have ha := all_map (si := fun j => (tyF A j).2) (si' := fun j => (tyF U j).2) (o := o) (ks := [(x : Int), (y : Int)]) (fun z hz => by simp only [hk z (by rw [hks]; exact hz)])
    have e1 : ((x : Int) + (o : Int)).toNat = x + o := by omega
    have e2 : ((y : Int) + (o : Int)).toNat = y + o := by omega
    rw [e1, Int.toNat_natCast] at hx
    rw [e2, Int.toNat_natCast] at hy
    simp only [List.map_cons, List.map_nil] at ha
    simp only [List.map_cons, List.map_nil, List.getD_cons_zero, List.getD_cons_succ, Int.toNat_natCast, e1, e2]
    unfold cmO stO
    simp only [hx, hy]
    have f1 : ((x + o : Nat) : Int) = (x : Int) + (o : Int) := by omega
    have f2 : ((y + o : Nat) : Int) = (y : Int) + (o : Int) := by omega
    have f3 : ((o + j : Nat) : Int) = (j : Int) + (o : Int) := by omega
    rw [f1, f2, f3, ha]
    split
    · rfl
    split
    · rfl
    split
    · rfl
    split <;> rfl
  rw [if_neg (show ¬ (shf o (pt A j)).kind = 6 from h6), if_neg h6]
  by_cases h7 : (pt A j).kind = 7
  · obtain ⟨x, y, hks⟩ := hs.1 (.inr h7)
    rw [if_pos (show (shf o (pt A j)).kind = 7 from h7), if_pos h7]
    simp only [shf]
    rw [hks]
    have hx := hk x (by rw [hks]; simp)
    have hy := hk y (by rw [hks]; simp)
    have ha := all_map (si := fun j => (tyF A j).2) (si' := fun j => (tyF U j).2) (o := o) (ks := [(x : Int), (y : Int)]) (fun z hz => by simp only [hk z (by rw [hks]; exact hz)])
    have e1 : ((x : Int) + (o : Int)).toNat = x + o := by omega
    have e2 : ((y : Int) + (o : Int)).toNat = y + o := by omega
    rw [e1, Int.toNat_natCast] at hx
    rw [e2, Int.toNat_natCast] at hy
    simp only [List.map_cons, List.map_nil] at ha
    simp only [List.map_cons, List.map_nil, List.getD_cons_zero, List.getD_cons_succ, Int.toNat_natCast, e1, e2]
    unfold mbO stO
    simp only [hx, hy]
    have f1 : ((x + o : Nat) : Int) = (x : Int) + (o : Int) := by omega
    have f2 : ((y + o : Nat) : Int) = (y : Int) + (o : Int) := by omega
    have f3 : ((o + j : Nat) : Int) = (j : Int) + (o : Int) := by omega
    rw [f1, f2, f3, ha]
    split
    · rfl
    split
    · rfl
    split <;> rfl
  rw [if_neg (show ¬ (shf o (pt A j)).kind = 7 from h7), if_neg h7]
  by_cases h13 : (pt A j).kind = 13
  · rw [if_pos (show (shf o (pt A j)).kind = 13 from h13), if_pos h13]
    simp only [shf]
    generalize (pt A j).kids = ks at *
    cases ks with
    | nil => rfl
    | cons x r =>
      have hx := hk x (List.mem_cons_self ..)
      simp only [List.map_cons, List.getD_cons_zero, hx]
      exact al_map (ks := x :: r) (fun y hy => by simp only [hk y hy])
  rw [if_neg (show ¬ (shf o (pt A j)).kind = 13 from h13), if_neg h13]
  by_cases h19 : (pt A j).kind = 19
  · obtain ⟨x, hks⟩ := hs.2 h19
    have hx := hkd x (by rw [hks]; simp)
    rw [if_pos (show (shf o (pt A j)).kind = 19 from h19), if_pos h19]
    simp only [shf]
    rw [hks]
    have e1 : ((x : Int) + (o : Int)).toNat = o + x := by omega
    simp only [List.map_cons, List.map_nil, List.getD_cons_zero, Int.toNat_natCast, e1]
    rw [he.at' x (by omega)]
    simp only [shf]
    unfold rdO
    have f1 : ((o + x : Nat) : Int) = (x : Int) + (o : Int) := by omega
    rw [f1]
    split <;> rfl
  rw [if_neg (show ¬ (shf o (pt A j)).kind = 19 from h19), if_neg h19]
  simp only [shf]
  unfold asO
  have f3 : ((o + j : Nat) : Int) = (j : Int) + (o : Int) := by omega
  rw [f3]
  split
  · split <;> rfl
  split <;> rfl
theorem emb_scp {A U : List Pt} {o : Nat} (he : Emb A U o) (h1 : 1 ≤ A.length) {sc : Int} {sp : Nat → Int} (hs : Scp U sc sp) (hA : GdS A) : Scp A (sp (o + (A.length - 1))) (fun j => sp (o + j)) := by
  have hl := he.len
  refine ⟨rfl, fun i hi x hx => ?_⟩
  have h2 := hs.kid (o + i) (by omega) (o + x) (by
    rw [he.at' i hi]
    exact List.mem_map.2 ⟨x, hx, by omega⟩)
  rw [h2, he.at' i hi]
  rfl
theorem map_none {o : Nat} {e : Option (Nat × Int)} : e.map (shE o) = none ↔ e = none := by cases e <;> simp
end Go.Proofs.YtiddnjjaidiohaaGreatDoor.L
namespace Go.Proofs.YtiddnjjaidiohaaGreatDoor.L
open Go.RowKit
set_option linter.unusedVariables false
/-- Both trees as the kids of a part of this kind. -/
def jnT (k : Int) (A B : List Pt) : List Pt := A ++ B.map (shf A.length) ++ [⟨k, ⟨#[]⟩, 0, [((A.length : Nat) : Int) - 1, ((A.length + B.length : Nat) : Int) - 1]⟩]
/-- The tree as the kid of a part of this kind. -/
def unT (k : Int) (tx : ByteArray) (A : List Pt) : List Pt := A ++ [⟨k, tx, 0, [((A.length : Nat) : Int) - 1]⟩]
theorem jn_len (k : Int) (A B : List Pt) : (jnT k A B).length = A.length + B.length + 1 := by simp [jnT]; omega
theorem un_len (k : Int) (tx : ByteArray) (A : List Pt) : (unT k tx A).length = A.length + 1 := by simp [unT]
theorem shf_zero (p : Pt) : shf 0 p = p := by
  unfold shf
  have : p.kids.map (· + ((0 : Nat) : Int)) = p.kids := by simp
  rw [this]
theorem pt_app {A B : List Pt} {j : Nat} (h : j < A.length) : pt (A ++ B) j = pt A j := by
  unfold pt
  rw [List.getD_eq_getElem?_getD, List.getD_eq_getElem?_getD, List.getElem?_append_left h]
theorem pt_app2 {A B : List Pt} (j : Nat) : pt (A ++ B) (A.length + j) = pt B j := by
  unfold pt
  rw [List.getD_eq_getElem?_getD, List.getD_eq_getElem?_getD, List.getElem?_append_right (by omega)]
  congr 2
  omega
theorem un_emb (k : Int) (tx : ByteArray) (A : List Pt) : Emb A (unT k tx A) 0 := ⟨by rw [un_len]; omega, fun j hj => by rw [shf_zero, Nat.zero_add]; exact pt_app hj⟩
theorem un_top (k : Int) (tx : ByteArray) (A : List Pt) : pt (unT k tx A) A.length = ⟨k, tx, 0, [((A.length : Nat) : Int) - 1]⟩ := by
  have := pt_app2 (A := A) (B := [⟨k, tx, 0, [((A.length : Nat) : Int) - 1]⟩]) 0
  rw [Nat.add_zero] at this
  exact this
theorem jn_emb (k : Int) (A B : List Pt) : Emb A (jnT k A B) 0 := ⟨by rw [jn_len]; omega, fun j hj => by
  rw [shf_zero, Nat.zero_add]
  unfold jnT
  rw [pt_app (by rw [List.length_append]; omega)]
  exact pt_app hj⟩
theorem jn_emb2 (k : Int) (A B : List Pt) : Emb B (jnT k A B) A.length := ⟨by rw [jn_len]; omega, fun j hj => by
  unfold jnT
  rw [pt_app (by rw [List.length_append, List.length_map]; omega), pt_app2]
  unfold pt
  rw [List.getD_eq_getElem?_getD, List.getElem?_map, List.getElem?_eq_getElem hj, List.getD_eq_getElem?_getD, List.getElem?_eq_getElem hj]
  rfl⟩
theorem jn_top (k : Int) (A B : List Pt) : pt (jnT k A B) (A.length + B.length) = ⟨k, ⟨#[]⟩, 0, [((A.length : Nat) : Int) - 1, ((A.length + B.length : Nat) : Int) - 1]⟩ := by
  have := pt_app2 (A := A ++ B.map (shf A.length)) (B := [⟨k, ⟨#[]⟩, 0, [((A.length : Nat) : Int) - 1, ((A.length + B.length : Nat) : Int) - 1]⟩]) 0
  rw [Nat.add_zero, List.length_append, List.length_map] at this
  exact this
theorem map_z (e : Option (Nat × Int)) : e.map (shE 0) = e := by
  cases e with
  | none => rfl
  | some e => simp [shE]
theorem top_as {T : List Pt} {s : Int} {t : Nat} {k nu : Int} {tx : ByteArray} {ks : List Int} (h : pt T t = ⟨k, tx, nu, ks⟩) (hk : k ≠ 6 ∧ k ≠ 7 ∧ k ≠ 13 ∧ k ≠ 19) : brF T s t = asO k nu s tx t := by
  rw [brF_as (by rw [h]; exact hk), h]
/-- What A's faults and types are in a greater tree, whose root gives A this scope. -/
theorem in_none {A U : List Pt} {sc : Int} {sp : Nat → Int} {o : Nat} (he : Emb A U o) (hA : Res A 0 0) (hU : Res U 0 0) (hs : Scp U sc sp) (hn : (ovS A (sp (o + (A.length - 1)))).2 = none) :
    (∀ j, j < A.length → brF U (sp (o + j)) (o + j) = none) ∧ ∀ j, j < A.length → tyF U (o + j) = (ovS A (sp (o + (A.length - 1)))).1 j := by
  obtain ⟨h1, h2, h3, _⟩ := res_ok hA
  obtain ⟨k1, k2, k3, _⟩ := res_ok hU
  have gA := gds_of h3 h2
  have gU := gds_of k3 k2
  obtain ⟨m1, m2⟩ := ck_ok hA (emb_scp he h1 hs gA) hn
  exact ⟨fun j hj => by rw [emb_br he gA gU hj]; exact map_none.2 (m1 j hj), fun j hj => by rw [m2 j hj]; exact emb_ty he gA gU j hj⟩
theorem in_some {A U : List Pt} {sc : Int} {sp : Nat → Int} {e : Nat × Int} (he : Emb A U 0) (hA : Res A 0 0) (hU : Res U 0 0) (hs : Scp U sc sp) (hn : (ovS A (sp (A.length - 1))).2 = some e) : (ovS U sc).2 = some e := by
  obtain ⟨h1, h2, h3, _⟩ := res_ok hA
  obtain ⟨k1, k2, k3, _⟩ := res_ok hU
  have gA := gds_of h3 h2
  have gU := gds_of k3 k2
  have hs2 := emb_scp he h1 hs gA
  rw [Nat.zero_add] at hs2
  obtain ⟨j, m1, m2, m3⟩ := ck_err hA hs2 hn
  have hl := he.len
  simp only [Nat.zero_add] at m2 m3
  have hb : ∀ i, i < A.length → brF U (sp i) i = brF A (sp i) i := fun i hi => by
    have := emb_br he gA gU hi (sp i)
    rw [Nat.zero_add, map_z] at this
    exact this
  exact ck_no hU hs (j := j) (by omega) (by rw [hb j m1]; exact m2) (fun i hi => by rw [hb i (by omega)]; exact m3 i hi)
theorem un_root {k : Int} {tx : ByteArray} {A : List Pt} {sc : Int} {sp : Nat → Int} (h1 : 1 ≤ A.length) (hs : Scp (unT k tx A) sc sp) : sp A.length = sc ∧ sp (A.length - 1) = scpO k sc := by
  have hr := hs.root
  rw [un_len, Nat.add_sub_cancel] at hr
  have := hs.kid A.length (by rw [un_len]; omega) (A.length - 1) (by rw [un_top]; simp; omega)
  rw [un_top, hr] at this
  exact ⟨hr, this⟩
theorem jn_root {k : Int} {A B : List Pt} {sc : Int} {sp : Nat → Int} (h1 : 1 ≤ A.length) (h2 : 1 ≤ B.length) (hs : Scp (jnT k A B) sc sp) : sp (A.length + B.length) = sc ∧ sp (A.length - 1) = scpO k sc ∧ sp (A.length + (B.length - 1)) = scpO k sc := by
  have hr := hs.root
  rw [jn_len, Nat.add_sub_cancel] at hr
  have a1 := hs.kid (A.length + B.length) (by rw [jn_len]; omega) (A.length - 1) (by rw [jn_top]; simp; omega)
  have a2 := hs.kid (A.length + B.length) (by rw [jn_len]; omega) (A.length + (B.length - 1)) (by rw [jn_top]; simp; omega)
  rw [jn_top, hr] at a1 a2
  exact ⟨hr, a1, a2⟩
/-- A part over A: whether it is taken hangs on itself alone. -/
theorem un_ok {k : Int} {tx : ByteArray} {A : List Pt} {sc : Int} (hA : Res A 0 0) (hU : Res (unT k tx A) 0 0) (hk : k ≠ 6 ∧ k ≠ 7 ∧ k ≠ 13 ∧ k ≠ 19) (hn : (ovS A (scpO k sc)).2 = none) :
    (asO k 0 sc tx A.length = none → (ovS (unT k tx A) sc).2 = none ∧ ∀ j, j < A.length → (ovS (unT k tx A) sc).1 j = (ovS A (scpO k sc)).1 j) ∧
    (∀ e, asO k 0 sc tx A.length = some e → (ovS (unT k tx A) sc).2 = some e) := by
  obtain ⟨h1, _⟩ := res_ok hA
  obtain ⟨k1, k2, k3, _⟩ := res_ok hU
  have hs := spF_ok k3 k1 sc
  generalize spF (unT k tx A) sc = sp at hs
  obtain ⟨r1, r2⟩ := un_root h1 hs
  have hin := in_none (un_emb k tx A) hA hU hs (by rw [Nat.zero_add, r2]; exact hn)
  simp only [Nat.zero_add] at hin
  rw [r2] at hin
  have ht := top_as (s := sc) (un_top k tx A) hk
  constructor
  · intro ha
    obtain ⟨y1, y2⟩ := ck_yes hU hs (fun j hj => by
      rw [un_len] at hj
      by_cases e : j = A.length
      · rw [e, r1, ht]; exact ha
      · exact hin.1 j (by omega))
    exact ⟨y1, fun j hj => by rw [y2 j (by rw [un_len]; omega)]; exact hin.2 j hj⟩
  · intro e ha
    exact ck_no hU hs (j := A.length) (by rw [un_len]; omega) (by rw [r1, ht]; exact ha) (fun i hi => hin.1 i hi)
theorem jn_ok {k : Int} {A B : List Pt} {sc : Int} (hA : Res A 0 0) (hB : Res B 0 0) (hU : Res (jnT k A B) 0 0) (hk : k = 4 ∨ k = 5) (hn : (ovS A sc).2 = none) (hm : (ovS B sc).2 = none) :
    (ovS (jnT k A B) sc).2 = none ∧ (∀ j, j < A.length → (ovS (jnT k A B) sc).1 j = (ovS A sc).1 j) ∧ (∀ j, j < B.length → (ovS (jnT k A B) sc).1 (A.length + j) = (ovS B sc).1 j) := by
  obtain ⟨h1, _⟩ := res_ok hA
  obtain ⟨h2, _⟩ := res_ok hB
  obtain ⟨k1, k2, k3, _⟩ := res_ok hU
  have hs := spF_ok k3 k1 sc
  generalize spF (jnT k A B) sc = sp at hs
  obtain ⟨r1, r2, r3⟩ := jn_root h1 h2 hs
  have e0 : scpO k sc = sc := by rcases hk with rfl | rfl <;> rfl
  rw [e0] at r2 r3
  have hin := in_none (jn_emb k A B) hA hU hs (by rw [Nat.zero_add, r2]; exact hn)
  have hjn := in_none (jn_emb2 k A B) hB hU hs (by rw [r3]; exact hm)
  simp only [Nat.zero_add] at hin
  rw [r2] at hin
  rw [r3] at hjn
  have ht := top_as (s := sc) (jn_top k A B) (by omega)
  have ha : asO k 0 sc ⟨#[]⟩ ((A.length + B.length : Nat) : Int) = none := by rcases hk with rfl | rfl <;> simp [asO, knB, nmB]
  obtain ⟨y1, y2⟩ := ck_yes hU hs (fun j hj => by
    rw [jn_len] at hj
    by_cases e : j = A.length + B.length
    · rw [e, r1, ht]; exact ha
    · by_cases e2 : j < A.length
      · exact hin.1 j e2
      · have e3 : j = A.length + (j - A.length) := by omega
        rw [e3]
        exact hjn.1 (j - A.length) (by omega))
  exact ⟨y1, fun j hj => by rw [y2 j (by rw [jn_len]; omega)]; exact hin.2 j hj, fun j hj => by rw [y2 _ (by rw [jn_len]; omega)]; exact hjn.2 j hj⟩
theorem jn_err {k : Int} {A B : List Pt} {sc : Int} {e : Nat × Int} (hA : Res A 0 0) (h2 : 1 ≤ B.length) (hU : Res (jnT k A B) 0 0) (hk : k = 4 ∨ k = 5) (hn : (ovS A sc).2 = some e) : (ovS (jnT k A B) sc).2 = some e := by
  obtain ⟨h1, _⟩ := res_ok hA
  obtain ⟨k1, k2, k3, _⟩ := res_ok hU
  have hs := spF_ok k3 k1 sc
  generalize spF (jnT k A B) sc = sp at hs
  obtain ⟨r1, r2, r3⟩ := jn_root h1 h2 hs
  have e0 : scpO k sc = sc := by rcases hk with rfl | rfl <;> rfl
  rw [e0] at r2
  exact in_some (jn_emb k A B) hA hU hs (by rw [r2]; exact hn)
/-- node[key] == "x". -/
abbrev wT (key : ByteArray) : List Pt := [⟨14, key, 2, []⟩, ⟨11, ⟨#[120]⟩, 0, []⟩, ⟨6, ⟨#[]⟩, 1, [0, 1]⟩]
theorem w_ok {key : ByteArray} : ((ovS (wT key) 2).2 = none ↔ keyB key = true) := by
  have e2 : nmB 14 key = keyB key := by simp [nmB]
  rw [← e2]
  have e0 : brO (wT key) (fun _ => 0) (fun _ => 0) 0 2 = if nmB 14 key = true then none else some (147, 0) := by
    rw [br_as (show (pt (wT key) 0).kind ≠ 6 ∧ (pt (wT key) 0).kind ≠ 7 ∧ (pt (wT key) 0).kind ≠ 13 ∧ (pt (wT key) 0).kind ≠ 19 from (by decide : (14 : Int) ≠ 6 ∧ (14 : Int) ≠ 7 ∧ (14 : Int) ≠ 13 ∧ (14 : Int) ≠ 19))]
    rfl
  have e : ovS (wT key) 2 = ov (wT key) 3 (fun _ => (0, 0)) 2 2 := rfl
  have e1 : ov (wT key) 1 (fun _ => (0, 0)) 0 2 = fin (wT key) 0 2 (fun _ => (0, 0)) := rfl
  rw [e, ov_succ]
  show (aft (wT key) 2 2 ([(0 : Int), 1].foldl (stp (wT key) 2 6 2) (fun _ => (0, 0), none))).2 = none ↔ _
  rw [List.foldl_cons]
  have e3 : stp (wT key) 2 6 2 (fun _ => (0, 0), none) 0 = fin (wT key) 0 2 (fun _ => (0, 0)) := rfl
  rw [e3]
  cases h : nmB 14 key
  · rw [h] at e0
    rw [fin_some (e := (147, 0)) e0]
    simp only [List.foldl_cons, List.foldl_nil]
    constructor
    · intro h; cases h
    · intro h; cases h
  · rw [h] at e0
    rw [fin_none (show brO (wT key) (fun j => ((fun _ => (0, 0) : Nat → Int × Int) j).1) (fun j => ((fun _ => (0, 0) : Nat → Int × Int) j).2) 0 2 = none from e0)]
    constructor
    · intro _; rfl
    · intro _; rfl
end Go.Proofs.YtiddnjjaidiohaaGreatDoor.L
