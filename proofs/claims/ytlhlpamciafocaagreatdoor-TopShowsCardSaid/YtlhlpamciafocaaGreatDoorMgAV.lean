import Derived.Test.YtlhlpamciafocaaGreatDoorMgAU
namespace Go.Proofs.YtlhlpamciafocaaGreatDoor.L
open Go.RowKit Go.Shelf
set_option linter.unusedVariables false
set_option linter.unusedSimpArgs false
section
variable {T : List Tok} {P : List Pt} {ns : Nat}
/-- An element of a set. -/
def Elt (P : List Pt) (y : Nat) : Prop := y < P.length ∧ ((∃ x, pt P y = ⟨11, x, 0, []⟩ ∧ tkp P y = [kt x]) ∨ (∃ z, pt P y = ⟨12, ⟨#[]⟩, z, []⟩ ∧ tkp P y = [kn z]))
theorem Elt.len {y : Nat} (h : Elt P y) : (tkp P y).length = 1 := by
  rcases h.2 with ⟨x, _, e⟩ | ⟨z, _, e⟩ <;> rw [e] <;> rfl
theorem mem_gd {y d a ahead : Nat} {os : List Int} (h : Elt P y) (hc : Chn P a (pt P y).kids y) (hk : Kx T d (tkp P y)) (ha : ahead ≠ 64) : Gd (fun _ => memP T ⟨d, ns, P.take a, os⟩ ahead) (y : Int) (d + 1) ns (P.take (y + 1)) := by
  have hay : a = y := by
    rcases h.2 with ⟨x, e, _⟩ | ⟨z, e, _⟩ <;> rw [e] at hc <;> cases hc <;> rfl
  subst hay
  have red : isEl (tk T d) = true → ∀ n : Nat, memP T ⟨d, ns, P.take a, os⟩ ahead = elP T ⟨d, ns, P.take a, os⟩ := fun h n => by
    show (if isEl (tk T d) = true then (if ahead = 64 then _ else _) else _) = _
    rw [if_pos h, if_neg ha]
  rcases h.2 with ⟨x, e, e2⟩ | ⟨z, e, e2⟩
  · rw [e2] at hk
    have h0 := kx_one hk
    exact gd_eq (el_11 h.1 e h0) (red (by have h1 := kq_at h0; unfold isEl; rw [h1.1]; decide))
  · rw [e2] at hk
    have h0 := kx_one hk
    exact gd_eq (el_12 h.1 e h0) (red (by have h1 := kq_at h0; unfold isEl; rw [h1.1]; decide))
theorem mems_gd : ∀ (r : List Int) {a b d c : Nat} {os ks : List Int}, Chn P a r b → (∀ y : Nat, (y : Int) ∈ r → Elt P y) → Kx T d (r.flatMap fun x => km [44] :: tkp P x.toNat) → ks.length + r.length ≤ 64 → r.length < c → nm T (d + 2 * r.length) [44] = false → Gd (fun _ => memsP T c ks ⟨d, ns, P.take a, os⟩) (ks ++ r) (d + 2 * r.length) ns (P.take b)
  | [], a, b, d, c, os, ks, hc, hE, hk, hl, hn, hm => by
    cases hc
    obtain ⟨c, rfl⟩ : ∃ c', c = c' + 1 := ⟨c - 1, by simp at hn; omega⟩
    refine gd_const os fun n => ?_
    show (if nm T d [44] = true then _ else _) = _
    rw [show nm T d [44] = false from hm, List.append_nil]
    rfl
  | x :: r, a, b, d, c, os, ks, hc, hE, hk, hl, hn, hm => by
    cases hc with
    | @cons _ y _ _ h1 h2 =>
      obtain ⟨c, rfl⟩ : ∃ c', c = c' + 1 := ⟨c - 1, by simp at hn; omega⟩
      rw [List.flatMap_cons] at hk
      have hEy := hE y (by simp)
      have e1 := hEy.len
      obtain ⟨k1, k2⟩ := kx_app hk
      obtain ⟨k0, k1⟩ := kx_cons k1
      rw [List.length_cons, show ((y : Int).toNat) = y by omega, e1] at k2
      rw [show ((y : Int).toNat) = y by omega] at k1
      simp only [List.length_cons] at hl hn hm ⊢
      have ih := fun os => mems_gd r (ks := ks ++ [(y : Int)]) (os := os) (c := c) (d := d + 2) h2 (fun z hz => hE z (by simp [hz])) k2 (by simp; omega) (by omega) (by rw [show d + 2 + 2 * r.length = d + 2 * (r.length + 1) by omega]; exact hm)
      refine gd_eq (q := fun n => bnd (memP T ⟨d + 1, ns, P.take a, os⟩ ks.length) fun k s1 => memsP T c (ks ++ [k]) s1) ?_ fun n => ?_
      · have := gd_bnd (f := fun n k s1 => memsP T c (ks ++ [k]) s1) (mem_gd (T := T) (ns := ns) (os := os) (ahead := ks.length) hEy h1 k1 (by omega)) ih
        rw [List.append_assoc, show d + 2 + 2 * r.length = d + 2 * (r.length + 1) by omega] at this
        exact this
      · show (if nm T d [44] = true then _ else _) = _
        rw [nm_km k0, if_pos (by simp)]
        rfl
theorem rd_13 {y a d : Nat} {os ks : List Int} (hy : y < P.length) (hp : pt P y = ⟨13, ⟨#[]⟩, 0, ks⟩) (hc : Chn P a ks y) (hE : ∀ z : Nat, (z : Int) ∈ ks → Elt P z) (hl : ks.length ≤ 64) (h : Kx T d (km [123] :: (joinT (ks.map fun x => tkp P x.toNat) (km [44]) ++ [km [125]]))) :
    Gd (fun n => gr T n .term ⟨d, ns, P.take a, os⟩) (y : Int) (d + (km [123] :: (joinT (ks.map fun x => tkp P x.toNat) (km [44]) ++ [km [125]])).length) ns (P.take (y + 1)) := by
  obtain ⟨h0, h1⟩ := kx_cons h
  refine gd_up (q := fun n => setP T ⟨d, ns, P.take a, os⟩) ?_ (fun n => term_set n h0)
  obtain ⟨h2, h3⟩ := kx_app h1
  have h4 := kx_one h3
  cases ks with
  | nil =>
    cases hc
    refine gd_bnd (f := fun n _ s1 => bnd (if isM T s1 [125] = true then .ok ([], s1) else bnd (memP T s1 0) fun k s2 => .ok ([k], s2)) fun ks s2 => bnd (memsP T 4097 ks s2) fun ks s3 => bnd (markP T s3 [125]) fun _ s4 => putP s4 ⟨13, ⟨#[]⟩, 0, ks⟩ ((tk T d).a : Int)) (gd_mark h0) fun os1 => ?_
    have h5 : kq (tk T (d + 1)) = km [125] := h4
    refine gd_bnd (p := fun n => if isM T ⟨d + 1, ns, P.take y, os1⟩ [125] = true then .ok ([], ⟨d + 1, ns, P.take y, os1⟩) else bnd (memP T ⟨d + 1, ns, P.take y, os1⟩ 0) fun k s2 => .ok ([k], s2)) (a := []) (d := d + 1) (ns := ns) (ps := P.take y) (f := fun n ks s2 => bnd (memsP T 4097 ks s2) fun ks s3 => bnd (markP T s3 [125]) fun _ s4 => putP s4 ⟨13, ⟨#[]⟩, 0, ks⟩ ((tk T d).a : Int)) ?_ fun os2 => ?_
    · refine gd_const os1 fun n => ?_
      rw [isM_nm]
      show (if nm T (d + 1) [125] = true then _ else _) = _
      rw [nm_km h5, if_pos (by simp)]
    · refine gd_bnd (f := fun n ks s3 => bnd (markP T s3 [125]) fun _ s4 => putP s4 ⟨13, ⟨#[]⟩, 0, ks⟩ ((tk T d).a : Int)) (mems_gd [] (ks := []) (.nil y) (fun z hz => by cases hz) (fun j hj => by cases hj) (by simp) (by simp) (by rw [show d + 1 + 2 * ([] : List Int).length = d + 1 by simp, nm_km h5]; decide)) fun os3 => ?_
      exact gd_bnd (gd_mark h5) fun os4 => gd_put hy hp.symm _ _ _ _
  | cons x r =>
    cases hc with
    | @cons _ z _ _ c1 c2 =>
      simp only [List.map_cons, joinT, show ((z : Int).toNat) = z by omega] at h2 h4 ⊢
      have hEz := hE z (by simp)
      have el := hEz.len
      obtain ⟨k1, k2⟩ := kx_app h2
      rw [el] at k2
      have hfl : ∀ (r : List Int), (∀ z : Nat, (z : Int) ∈ r → Elt P z) → (∀ q ∈ r, 0 ≤ q) → ((r.map fun x => tkp P x.toNat).flatMap (km [44] :: ·)) = (r.flatMap fun x => km [44] :: tkp P x.toNat) ∧ (r.flatMap fun x => km [44] :: tkp P x.toNat).length = 2 * r.length := by
        intro r
        induction r with
        | nil => intro _ _; exact ⟨rfl, rfl⟩
        | cons q r ih =>
          intro h9 h8
          have h7 := ih (fun z hz => h9 z (by simp [hz])) (fun q hq => h8 q (by simp [hq]))
          have hq := h8 q (by simp)
          have h6 := (h9 q.toNat (by simp [Int.toNat_of_nonneg hq])).len
          refine ⟨by rw [List.map_cons, List.flatMap_cons, List.flatMap_cons, h7.1], ?_⟩
          rw [List.flatMap_cons, List.length_append, h7.2, List.length_cons, h6, List.length_cons]
          omega
      have hnn : ∀ (r : List Int) {a b : Nat}, Chn P a r b → ∀ q ∈ r, 0 ≤ q := by
        intro r
        induction r with
        | nil => intro a b _ q hq; cases hq
        | cons q r ih =>
          intro a b hc q' hq'
          cases hc with
          | cons h5 h6 =>
            rcases List.mem_cons.1 hq' with rfl | hq'
            · omega
            · exact ih h6 q' hq'
      have hf := hfl r (fun q hq => hE q (by simp [hq])) (hnn r c2)
      rw [hf.1] at k2 h4 ⊢
      simp only [List.length_append, List.length_cons, List.length_nil, el, hf.2] at h4 ⊢
      simp only [List.length_cons] at hl
      refine gd_bnd (f := fun n _ s1 => bnd (if isM T s1 [125] = true then .ok ([], s1) else bnd (memP T s1 0) fun k s2 => .ok ([k], s2)) fun ks s2 => bnd (memsP T 4097 ks s2) fun ks s3 => bnd (markP T s3 [125]) fun _ s4 => putP s4 ⟨13, ⟨#[]⟩, 0, ks⟩ ((tk T d).a : Int)) (gd_mark h0) fun os1 => ?_
      have hno : nm T (d + 1) [125] = false := by
        rcases hEz.2 with ⟨x, _, e⟩ | ⟨x, _, e⟩ <;> rw [e] at k1 <;> exact nm_no (by have h1 := kq_at (kx_one k1); rw [h1.1]; decide) _
      refine gd_bnd (p := fun n => if isM T ⟨d + 1, ns, P.take a, os1⟩ [125] = true then .ok ([], ⟨d + 1, ns, P.take a, os1⟩) else bnd (memP T ⟨d + 1, ns, P.take a, os1⟩ 0) fun k s2 => .ok ([k], s2)) (a := [(z : Int)]) (d := d + 1 + 1) (ns := ns) (ps := P.take (z + 1)) (f := fun n ks s2 => bnd (memsP T 4097 ks s2) fun ks s3 => bnd (markP T s3 [125]) fun _ s4 => putP s4 ⟨13, ⟨#[]⟩, 0, ks⟩ ((tk T d).a : Int)) ?_ fun os2 => ?_
      · refine gd_eq (q := fun n => bnd (memP T ⟨d + 1, ns, P.take a, os1⟩ 0) fun k s2 => .ok ([k], s2)) (gd_bnd (mem_gd hEz c1 k1 (by decide)) fun os2 => gd_ok [(z : Int)] _ _ _ os2) fun n => ?_
        rw [isM_nm]
        show (if nm T (d + 1) [125] = true then _ else _) = _
        rw [hno]
        rfl
      · have hcl : kq (tk T (d + 1 + 1 + 2 * r.length)) = km [125] := by rw [show d + 1 + 1 + 2 * r.length = d + 1 + (1 + 2 * r.length) by omega]; exact h4
        refine gd_bnd (f := fun n ks s3 => bnd (markP T s3 [125]) fun _ s4 => putP s4 ⟨13, ⟨#[]⟩, 0, ks⟩ ((tk T d).a : Int)) (mems_gd r (ks := [(z : Int)]) (d := d + 1 + 1) c2 (fun q hq => hE q (by simp [hq])) k2 (by simp; omega) (by omega) (by rw [nm_km hcl]; decide)) fun os3 => ?_
        have := gd_bnd (f := fun n _ s4 => putP s4 ⟨13, ⟨#[]⟩, 0, [(z : Int)] ++ r⟩ ((tk T d).a : Int)) (gd_mark (T := T) (ns := ns) (ps := P.take y) (os := os3) hcl) fun os4 => gd_put hy hp.symm _ _ _ _
        rw [show d + (1 + 2 * r.length + 1 + 1) = d + 1 + 1 + 2 * r.length + 1 by omega]
        exact this
end
end Go.Proofs.YtlhlpamciafocaaGreatDoor.L
namespace Go.Proofs.YtlhlpamciafocaaGreatDoor.L
open Go.RowKit Go.Shelf
set_option linter.unusedVariables false
set_option linter.unusedSimpArgs false
section
variable {T : List Tok} {P : List Pt} {ns : Nat}
/-- What is asked of one kid of a row. -/
def One (T : List Tok) (P : List Pt) (ns : Nat) (g : Gr) (kd : Nat → List Tok) (Nx : Nat → Prop) (y : Nat) : Prop := ∀ a d os, Chn P a (pt P y).kids y → Kx T d (kd y) → Nx (d + (kd y).length) → Gd (fun n => gr T n g ⟨d, ns, P.take a, os⟩) (y : Int) (d + (kd y).length) ns (P.take (y + 1))
theorem rows_gd {g : Gr} {sep : List UInt8} {kd : Nat → List Tok} {Nx : Nat → Prop} (hN : ∀ d, kq (tk T d) = km sep → Nx d) : ∀ (r : List Int) {a b d c : Nat} {os ks : List Int}, Chn P a r b → r.length < c → (∀ y : Nat, (y : Int) ∈ r → One T P ns g kd Nx y) → Kx T d (r.flatMap fun x => km sep :: kd x.toNat) → Nx (d + (r.flatMap fun x => km sep :: kd x.toNat).length) → nm T (d + (r.flatMap fun x => km sep :: kd x.toNat).length) sep = false →
    Gd (fun n => rowsP T (gr T n g) sep c ks ⟨d, ns, P.take a, os⟩) (ks ++ r) (d + (r.flatMap fun x => km sep :: kd x.toNat).length) ns (P.take b)
  | [], a, b, d, c, os, ks, hc, hl, h1, hk, hx, hm => by
    cases hc
    obtain ⟨c, rfl⟩ : ∃ c', c = c' + 1 := ⟨c - 1, by simp at hl; omega⟩
    refine gd_const os fun n => ?_
    show (if nm T d sep = true then _ else _) = _
    rw [show nm T d sep = false from hm, List.append_nil]
    rfl
  | x :: r, a, b, d, c, os, ks, hc, hl, h1, hk, hx, hm => by
    cases hc with
    | @cons _ y _ _ c1 c2 =>
      obtain ⟨c, rfl⟩ : ∃ c', c = c' + 1 := ⟨c - 1, by simp at hl; omega⟩
      simp only [List.flatMap_cons, List.length_append, List.length_cons, show ((y : Int).toNat) = y by omega] at hk hx hm hl ⊢
      obtain ⟨k1, k2⟩ := kx_app hk
      obtain ⟨k0, k1⟩ := kx_cons k1
      rw [List.length_cons, show d + ((kd y).length + 1) = d + 1 + (kd y).length by omega] at k2
      have ih := fun os => rows_gd hN r (ks := ks ++ [(y : Int)]) (os := os) (c := c) (d := d + 1 + (kd y).length) c2 (by omega) (fun z hz => h1 z (by simp [hz])) k2 (by rw [show d + 1 + (kd y).length + (r.flatMap fun x => km sep :: kd x.toNat).length = d + ((kd y).length + 1 + (r.flatMap fun x => km sep :: kd x.toNat).length) by omega]; exact hx) (by rw [show d + 1 + (kd y).length + (r.flatMap fun x => km sep :: kd x.toNat).length = d + ((kd y).length + 1 + (r.flatMap fun x => km sep :: kd x.toNat).length) by omega]; exact hm)
      have hnx : Nx (d + 1 + (kd y).length) := by
        cases r with
        | nil => have h9 := hx; simp only [List.flatMap_nil, List.length_nil] at h9; rw [show d + 1 + (kd y).length = d + ((kd y).length + 1 + 0) by omega]; exact h9
        | cons z r =>
          rw [List.flatMap_cons, List.cons_append] at k2
          exact hN _ (kx_cons k2).1
      refine gd_eq (q := fun n => bnd (gr T n g ⟨d + 1, ns, P.take a, os⟩) fun k s1 => rowsP T (gr T n g) sep c (ks ++ [k]) s1) ?_ fun n => ?_
      · have := gd_bnd (f := fun n k s1 => rowsP T (gr T n g) sep c (ks ++ [k]) s1) (h1 y (by simp) a (d + 1) os c1 k1 hnx) ih
        rw [List.append_assoc, show d + 1 + (kd y).length + (r.flatMap fun x => km sep :: kd x.toNat).length = d + ((kd y).length + 1 + (r.flatMap fun x => km sep :: kd x.toNat).length) by omega] at this
        exact this
      · show (if nm T d sep = true then _ else _) = _
        rw [nm_km k0, if_pos (by simp)]
        rfl
theorem flat_map (kd : Nat → List Tok) (t : Tok) : ∀ (r : List Int), (r.map fun x => kd x.toNat).flatMap (t :: ·) = r.flatMap fun x => t :: kd x.toNat
  | [] => rfl
  | x :: r => by rw [List.map_cons, List.flatMap_cons, List.flatMap_cons, flat_map kd t r]
/-- A conjunction, a disjunction. -/
theorem row_gd {g : Gr} {sep : List UInt8} {kd : Nat → List Tok} {Nx : Nat → Prop} {k : Int} {y a d : Nat} {os ks : List Int} (hN : ∀ d, kq (tk T d) = km sep → Nx d) (hy : y < P.length) (hp : pt P y = ⟨k, ⟨#[]⟩, 0, ks⟩) (hc : Chn P a ks y) (h2 : 2 ≤ ks.length) (hl : ks.length ≤ 4000) (h1 : ∀ z : Nat, (z : Int) ∈ ks → One T P ns g kd Nx z) (hk : Kx T d (joinT (ks.map fun x => kd x.toNat) (km sep))) (hx : Nx (d + (joinT (ks.map fun x => kd x.toNat) (km sep)).length)) (hm : nm T (d + (joinT (ks.map fun x => kd x.toNat) (km sep)).length) sep = false) :
    Gd (fun n => rowP T (gr T n g) k sep ⟨d, ns, P.take a, os⟩) (y : Int) (d + (joinT (ks.map fun x => kd x.toNat) (km sep)).length) ns (P.take (y + 1)) := by
  cases ks with
  | nil => simp at h2
  | cons x r =>
    cases hc with
    | @cons _ z _ _ c1 c2 =>
      simp only [List.map_cons, joinT, show ((z : Int).toNat) = z by omega, flat_map, List.length_append] at hk hx hm ⊢
      simp only [List.length_cons] at h2 hl
      obtain ⟨k1, k2⟩ := kx_app hk
      have hnx : Nx (d + (kd z).length) := by
        cases r with
        | nil => simp at h2
        | cons q r =>
          rw [List.flatMap_cons, List.cons_append] at k2
          exact hN _ (kx_cons k2).1
      refine gd_bnd (f := fun n k0 s1 => bnd (rowsP T (gr T n g) sep 4097 [k0] s1) fun ks s2 => if ks.length = 1 then .ok (k0, s2) else putP s2 ⟨k, ⟨#[]⟩, 0, ks⟩ ((tk T s1.nx).a : Int)) (h1 z (by simp) a d os c1 k1 hnx) fun os1 => ?_
      refine gd_bnd (f := fun n ks s2 => if ks.length = 1 then .ok ((z : Int), s2) else putP s2 ⟨k, ⟨#[]⟩, 0, ks⟩ ((tk T (d + (kd z).length)).a : Int)) (rows_gd hN r (ks := [(z : Int)]) (c := 4097) c2 (by omega) (fun q hq => h1 q (by simp [hq])) k2 (by rw [Nat.add_assoc]; exact hx) (by rw [Nat.add_assoc]; exact hm)) fun os2 => ?_
      rw [Nat.add_assoc]
      refine gd_eq (gd_put hy hp.symm _ _ os2 ((tk T (d + (kd z).length)).a : Int)) fun n => ?_
      rw [if_neg (by rw [List.length_append]; simp only [List.length_cons, List.length_nil]; omega)]
      rfl
/-- Comparisons. -/
theorem bet_cmp {d : Nat} {z : Int} (h : kq (tk T d) = km (sgnL z)) (hz : 1 ≤ z ∧ z ≤ 6) : betO (tk T d) = some (6, z) := by
  have h1 := kq_at h
  have ht : (tk T d).text.toList = sgnL z := by rw [h1.2.1, S_list]
  unfold betO
  rw [if_pos h1.1, ht]
  have : z = 1 ∨ z = 2 ∨ z = 3 ∨ z = 4 ∨ z = 5 ∨ z = 6 := by omega
  rcases this with rfl | rfl | rfl | rfl | rfl | rfl <;> decide
theorem bet_in {d : Nat} {z : Int} (h : kq (tk T d) = kw (memL z)) (hz : z = 0 ∨ z = 1) : betO (tk T d) = some (7, z) := by
  have h1 := kq_at h
  have ht : (tk T d).text.toList = memL z := by rw [h1.2.1, S_list]
  unfold betO
  rw [if_neg (by rw [h1.1]; decide), if_pos h1.1, ht]
  rcases hz with rfl | rfl <;> decide
theorem comp_gd {k z : Int} {y x1 x2 d a l1 l2 : Nat} {os : List Int} (hy : y < P.length) (hp : pt P y = ⟨k, ⟨#[]⟩, z, [(x1 : Int), (x2 : Int)]⟩) (hb : betO (tk T (d + l1)) = some (k, z)) (hy2 : y = x2 + 1) (h1 : Gd (fun n => gr T n .term ⟨d, ns, P.take a, os⟩) (x1 : Int) (d + l1) ns (P.take (x1 + 1))) (h2 : ∀ os, Gd (fun n => gr T n .term ⟨d + l1 + 1, ns, P.take (x1 + 1), os⟩) (x2 : Int) (d + l1 + 1 + l2) ns (P.take (x2 + 1))) (hH : Ht (tk T d)) :
    Gd (fun n => gr T n .unit ⟨d, ns, P.take a, os⟩) (y : Int) (d + (l1 + (l2 + 1))) ns (P.take (y + 1)) := by
  subst hy2
  refine gd_up (q := fun n => compP T (gr T n .term) ⟨d, ns, P.take a, os⟩) ?_ (fun n => unit_comp n hH)
  refine gd_bnd (f := fun n l s1 => match betO (tk T s1.nx) with | none => .error (rfE T s1) | some (kd, nu) => bnd (gr T n .term (adv s1)) fun r s2 => putP s2 ⟨kd, ⟨#[]⟩, nu, [l, r]⟩ ((tk T s1.nx).a : Int)) h1 fun os1 => ?_
  refine gd_eq (q := fun n => bnd (gr T n .term ⟨d + l1 + 1, ns, P.take (x1 + 1), os1⟩) fun r s2 => putP s2 ⟨k, ⟨#[]⟩, z, [(x1 : Int), r]⟩ ((tk T (d + l1)).a : Int)) ?_ fun n => ?_
  · rw [show d + (l1 + (l2 + 1)) = d + l1 + 1 + l2 by omega]
    exact gd_bnd (f := fun n r s2 => putP s2 ⟨k, ⟨#[]⟩, z, [(x1 : Int), r]⟩ ((tk T (d + l1)).a : Int)) (h2 os1) fun os2 => gd_put hy hp.symm _ _ _ _
  · show (match betO (tk T (d + l1)) with | none => _ | some (kd, nu) => _) = _
    rw [hb]
    rfl
/-- near, apart and count. -/
theorem sel_gd {k : Int} {x : ByteArray} {y z d a l : Nat} {os : List Int} (hy : y < P.length) (hp : pt P y = ⟨k, x, 0, [(z : Int)]⟩) (hyz : y = z + 1) (hns : ns < 32) (h0 : kq (tk T (d + 1)) = km [40]) (h1 : kq (tk T (d + 2)) = kt x) (h2 : kq (tk T (d + 3)) = km [44]) (h3 : kq (tk T (d + 4 + l)) = km [41]) (hE : ∀ os, Gd (fun n => gr T n .expr ⟨d + 4, ns + 1, P.take a, os⟩) (z : Int) (d + 4 + l) (ns + 1) (P.take (z + 1))) :
    Gd (fun n => selP T (gr T n .expr) k ⟨d, ns, P.take a, os⟩) (y : Int) (d + (l + 1 + 4)) ns (P.take (y + 1)) := by
  subst hyz
  refine gd_bnd (p := fun n => withP T (fun s1 => bnd (textP T s1) fun t s2 => bnd (markP T s2 [44]) fun _ s3 => bnd (gr T n .expr s3) fun k s4 => .ok ((t, k), s4)) ⟨d + 1, ns, P.take a, os⟩) (a := (x, (z : Int))) (d := d + 4 + l + 1) (ns := ns) (ps := P.take (z + 1)) (f := fun n tk2 s5 => putP s5 ⟨k, tk2.1, 0, [tk2.2]⟩ ((tk T d).a : Int)) ?_ fun os1 => ?_
  · refine gd_with (inn := fun n s1 => bnd (textP T s1) fun t s2 => bnd (markP T s2 [44]) fun _ s3 => bnd (gr T n .expr s3) fun k s4 => .ok ((t, k), s4)) h0 hns (fun os1 => ?_) h3
    exact gd_bnd (f := fun n t s2 => bnd (markP T s2 [44]) fun _ s3 => bnd (gr T n .expr s3) fun k s4 => .ok ((t, k), s4)) (gd_text h1) fun os2 => gd_bnd (f := fun n _ s3 => bnd (gr T n .expr s3) fun k s4 => .ok ((x, k), s4)) (gd_mark h2) fun os3 => gd_bnd (f := fun n k s4 => .ok ((x, k), s4)) (hE os3) fun os4 => gd_ok (x, (z : Int)) _ _ _ os4
  · rw [show d + (l + 1 + 4) = d + 4 + l + 1 by omega]
    exact gd_put hy hp.symm _ _ _ _
end
end Go.Proofs.YtlhlpamciafocaaGreatDoor.L
