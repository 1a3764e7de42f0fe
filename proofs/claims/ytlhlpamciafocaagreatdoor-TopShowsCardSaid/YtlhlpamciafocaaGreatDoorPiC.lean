import Derived.Test.YtlhlpamciafocaaGreatDoorMgAS
namespace Go.Proofs.YtlhlpamciafocaaGreatDoor.L
open Go.RowKit Go.Shelf
set_option linter.unusedVariables false
set_option linter.unusedSimpArgs false
theorem tl_nil {x : ByteArray} (h : x.toList = []) : x = ⟨#[]⟩ := by
  apply ByteArray.ext
  rw [ByteArray.toList_eq] at h
  exact Array.toList_inj.1 (by simpa using h)
/-- A token with which a term begins. -/
def Ht (t : Tok) : Prop := t.kind = 1 ∨ t.kind = 2 ∨ (t.kind = 4 ∧ t.text.toList = [123]) ∨ (t.kind = 3 ∧ t.text.toList ≠ [116, 114, 117, 101] ∧ t.text.toList ≠ [102, 97, 108, 115, 101] ∧ t.text.toList ≠ [110, 101, 97, 114] ∧ t.text.toList ≠ [97, 112, 97, 114, 116] ∧ t.text.toList ≠ [116, 111, 108, 101, 114, 97, 116, 101, 100])
section
variable {T : List Tok} {d ns : Nat} {ps : List Pt} {os : List Int}
theorem unit_atom (n : Nat) (h1 : nm T d [33] = false) (h2 : nm T d [40] = false) : gr T (n + 1) .unit ⟨d, ns, ps, os⟩ = atomP T (gr T n .expr) (gr T n .term) ⟨d, ns, ps, os⟩ := by
  show unitP T (gr T n .expr) (gr T n .unit) (gr T n .term) ⟨d, ns, ps, os⟩ = _
  unfold unitP
  rw [isM_nm, isM_nm]
  show (if nm T d [33] = true then _ else if nm T d [40] = true then _ else _) = _
  rw [h1, h2]
  rfl
theorem unit_comp (n : Nat) (h : Ht (tk T d)) : gr T (n + 1) .unit ⟨d, ns, ps, os⟩ = compP T (gr T n .term) ⟨d, ns, ps, os⟩ := by
  have hm : nm T d [33] = false ∧ nm T d [40] = false := by
    rcases h with h | h | ⟨h, h'⟩ | ⟨h, _⟩
    · exact ⟨nm_no (by rw [h]; decide) _, nm_no (by rw [h]; decide) _⟩
    · exact ⟨nm_no (by rw [h]; decide) _, nm_no (by rw [h]; decide) _⟩
    · unfold nm
      rw [h']
      simp
    · exact ⟨nm_no (by rw [h]; decide) _, nm_no (by rw [h]; decide) _⟩
  rw [unit_atom n hm.1 hm.2]
  unfold atomP
  show (if (tk T d).kind = 3 then (if (tk T d).text.toList = _ then _ else if (tk T d).text.toList = _ then _ else if (tk T d).text.toList = _ then _ else if (tk T d).text.toList = _ then _ else if (tk T d).text.toList = _ then _ else _) else _) = _
  rcases h with h | h | ⟨h, h'⟩ | ⟨h, a1, a2, a3, a4, a5⟩
  · rw [if_neg (by rw [h]; decide)]
  · rw [if_neg (by rw [h]; decide)]
  · rw [if_neg (by rw [h]; decide)]
  · rw [if_pos h, if_neg a1, if_neg a2, if_neg a3, if_neg a4, if_neg a5]
theorem term_el (n : Nat) (h : isEl (tk T d) = true) : gr T (n + 1) .term ⟨d, ns, ps, os⟩ = elP T ⟨d, ns, ps, os⟩ := by
  show (if isEl (tk T d) = true then _ else _) = _
  rw [if_pos h]
theorem term_set (n : Nat) (h : kq (tk T d) = km [123]) : gr T (n + 1) .term ⟨d, ns, ps, os⟩ = setP T ⟨d, ns, ps, os⟩ := by
  have h1 := kq_at h
  show (if isEl (tk T d) = true then _ else if isM T ⟨d, ns, ps, os⟩ [123] = true then _ else _) = _
  rw [if_neg (by unfold isEl; rw [h1.1]; decide), isM_nm]
  show (if nm T d [123] = true then _ else _) = _
  rw [nm_km h, if_pos (by simp)]
theorem term_word (n : Nat) {m : List UInt8} (h : kq (tk T d) = kw m) : gr T (n + 1) .term ⟨d, ns, ps, os⟩ = wordP T (gr T n .expr) (gr T n .term) ⟨d, ns, ps, os⟩ := by
  have h1 := kq_at h
  show (if isEl (tk T d) = true then _ else if isM T ⟨d, ns, ps, os⟩ [123] = true then _ else if (tk T d).kind = 3 then _ else _) = _
  rw [if_neg (by unfold isEl; rw [h1.1]; decide), isM_nm]
  show (if nm T d [123] = true then _ else _) = _
  rw [nm_no (by rw [h1.1]; decide), if_neg (by decide), if_pos h1.1]
theorem el_11 {P : List Pt} {y : Nat} (hy : y < P.length) {x : ByteArray} (hp : pt P y = ⟨11, x, 0, []⟩) (h : kq (tk T d) = kt x) : Gd (fun _ => elP T ⟨d, ns, P.take y, os⟩) (y : Int) (d + 1) ns (P.take (y + 1)) := by
  have h1 := kq_at h
  refine gd_eq (gd_put hy (p := ⟨11, x, 0, []⟩) hp.symm (d + 1) ns os ((tk T d).a : Int)) fun n => ?_
  show (if (tk T d).kind = 1 then putP _ ⟨11, (tk T d).text, 0, []⟩ _ else _) = _
  rw [if_pos h1.1, h1.2.1]
  rfl
theorem el_12 {P : List Pt} {y : Nat} (hy : y < P.length) {z : Int} (hp : pt P y = ⟨12, ⟨#[]⟩, z, []⟩) (h : kq (tk T d) = kn z) : Gd (fun _ => elP T ⟨d, ns, P.take y, os⟩) (y : Int) (d + 1) ns (P.take (y + 1)) := by
  have h1 := kq_at h
  refine gd_eq (gd_put hy (p := ⟨12, ⟨#[]⟩, z, []⟩) hp.symm (d + 1) ns os ((tk T d).a : Int)) fun n => ?_
  show (if (tk T d).kind = 1 then _ else putP _ ⟨12, ⟨#[]⟩, (tk T d).num, []⟩ _) = _
  rw [if_neg (by rw [h1.1]; decide), h1.2.2]
  rfl
theorem rd_11 {P : List Pt} {y : Nat} (hy : y < P.length) {x : ByteArray} (hp : pt P y = ⟨11, x, 0, []⟩) (h : kq (tk T d) = kt x) : Gd (fun n => gr T n .term ⟨d, ns, P.take y, os⟩) (y : Int) (d + 1) ns (P.take (y + 1)) :=
  gd_up (el_11 hy hp h) fun n => term_el n (by have h1 := kq_at h; unfold isEl; rw [h1.1]; decide)
theorem rd_12 {P : List Pt} {y : Nat} (hy : y < P.length) {z : Int} (hp : pt P y = ⟨12, ⟨#[]⟩, z, []⟩) (h : kq (tk T d) = kn z) : Gd (fun n => gr T n .term ⟨d, ns, P.take y, os⟩) (y : Int) (d + 1) ns (P.take (y + 1)) :=
  gd_up (el_12 hy hp h) fun n => term_el n (by have h1 := kq_at h; unfold isEl; rw [h1.1]; decide)
theorem who_w (n : Nat) {z : Int} (hz : z = 1 ∨ z = 2 ∨ z = 3) (h : kq (tk T d) = kw (whoL z)) : gr T (n + 1) .term ⟨d, ns, ps, os⟩ = whoP T ⟨d, ns, ps, os⟩ z := by
  rw [term_word n h]
  have h1 := kq_at h
  have ht : (tk T d).text.toList = whoL z := by rw [h1.2.1, S_list]
  show (if (tk T d).text.toList = _ then _ else if (tk T d).text.toList = _ then _ else if (tk T d).text.toList = _ then _ else _) = _
  rw [ht]
  rcases hz with rfl | rfl | rfl
  · rw [if_neg (by decide), if_pos (by decide)]
  · rw [if_pos (by decide)]
  · rw [if_neg (by decide), if_neg (by decide), if_pos (by decide)]
theorem rd_14 {P : List Pt} {y : Nat} (hy : y < P.length) {x : ByteArray} {z : Int} (hz : z = 1 ∨ z = 2 ∨ z = 3) (hp : pt P y = ⟨14, x, z, []⟩) (h : Kx T d [kw (whoL z), km [91], kt x, km [93]]) : Gd (fun n => gr T n .term ⟨d, ns, P.take y, os⟩) (y : Int) (d + 4) ns (P.take (y + 1)) := by
  obtain ⟨h0, h⟩ := kx_cons h
  obtain ⟨h1, h⟩ := kx_cons h
  obtain ⟨h2, h⟩ := kx_cons h
  have h3 := kx_one h
  refine gd_up (q := fun n => whoP T ⟨d, ns, P.take y, os⟩ z) ?_ (fun n => who_w n hz h0)
  refine gd_eq (q := fun n => bnd (textP T ⟨d + 1 + 1, ns, P.take y, os⟩) fun t s1 => bnd (markP T s1 [93]) fun _ s2 => putP s2 ⟨14, t, z, []⟩ ((tk T d).a : Int)) ?_ fun n => ?_
  · exact gd_bnd (gd_text h2) fun os1 => gd_bnd (gd_mark h3) fun os2 => gd_put hy hp.symm _ _ _ _
  · show (if nm T (d + 1) [91] = true then _ else _) = _
    rw [nm_km h1, if_pos (by simp)]
    rfl
theorem fld_at {k : Int} {m : List UInt8} (h : kq (tk T d) = kw m) (hk : (m = [110, 97, 109, 101] ∧ k = 15) ∨ (m = [107, 101, 121, 115] ∧ k = 16) ∨ (m = [116, 97, 105, 110, 116, 115] ∧ k = 17) ∨ (m = [99, 97, 112] ∧ k = 18)) : Gd (fun _ => fieldP T ⟨d, ns, ps, os⟩) k (d + 1) ns ps := by
  have h1 := kq_at h
  have ht : (tk T d).text.toList = m := by rw [h1.2.1, S_list]
  have e : fieldO (tk T d) = k := by
    unfold fieldO
    rw [if_pos h1.1, ht]
    rcases hk with ⟨rfl, rfl⟩ | ⟨rfl, rfl⟩ | ⟨rfl, rfl⟩ | ⟨rfl, rfl⟩
    · rw [if_pos rfl]
    · rw [if_neg (by decide), if_pos rfl]
    · rw [if_neg (by decide), if_neg (by decide), if_pos rfl]
    · rw [if_neg (by decide), if_neg (by decide), if_neg (by decide), if_pos rfl]
  refine gd_const os fun n => ?_
  unfold fieldP
  show (if fieldO (tk T d) = 0 then _ else Except.ok (fieldO (tk T d), _)) = _
  rw [e, if_neg (by rcases hk with ⟨_, rfl⟩ | ⟨_, rfl⟩ | ⟨_, rfl⟩ | ⟨_, rfl⟩ <;> decide)]
  rfl
theorem rd_15 {P : List Pt} {y : Nat} (hy : y < P.length) {z k : Int} {m : List UInt8} (hz : z = 1 ∨ z = 2 ∨ z = 3) (hk : (m = [110, 97, 109, 101] ∧ k = 15) ∨ (m = [107, 101, 121, 115] ∧ k = 16) ∨ (m = [116, 97, 105, 110, 116, 115] ∧ k = 17)) (hp : pt P y = ⟨k, ⟨#[]⟩, z, []⟩) (h : Kx T d [kw (whoL z), km [46], kw m]) : Gd (fun n => gr T n .term ⟨d, ns, P.take y, os⟩) (y : Int) (d + 3) ns (P.take (y + 1)) := by
  obtain ⟨h0, h⟩ := kx_cons h
  obtain ⟨h1, h⟩ := kx_cons h
  have h2 := kx_one h
  refine gd_up (q := fun n => whoP T ⟨d, ns, P.take y, os⟩ z) ?_ (fun n => who_w n hz h0)
  refine gd_eq (q := fun n => bnd (markP T ⟨d + 1, ns, P.take y, os⟩ [46]) fun _ s1 => bnd (fieldP T s1) fun k s2 => if k = 18 then bnd (namedP T s2) fun t s3 => putP s3 ⟨18, t, z, []⟩ ((tk T d).a : Int) else putP s2 ⟨k, ⟨#[]⟩, z, []⟩ ((tk T d).a : Int)) ?_ fun n => ?_
  · refine gd_bnd (gd_mark h1) fun os1 => gd_bnd (fld_at h2 (k := k) (by rcases hk with h | h | h; exact .inl h; exact .inr (.inl h); exact .inr (.inr (.inl h)))) fun os2 => ?_
    refine gd_eq (gd_put hy hp.symm (d + 1 + 1 + 1) ns os2 ((tk T d).a : Int)) fun n => ?_
    rw [if_neg (by rcases hk with ⟨_, rfl⟩ | ⟨_, rfl⟩ | ⟨_, rfl⟩ <;> decide)]
  · show (if nm T (d + 1) [91] = true then _ else _) = _
    rw [nm_km h1, if_neg (by decide)]
    rfl
theorem rd_18 {P : List Pt} {y : Nat} (hy : y < P.length) {x : ByteArray} {z : Int} (hz : z = 1 ∨ z = 2 ∨ z = 3) (hp : pt P y = ⟨18, x, z, []⟩) (h : Kx T d [kw (whoL z), km [46], kw [99, 97, 112], km [40], kt x, km [41]]) : Gd (fun n => gr T n .term ⟨d, ns, P.take y, os⟩) (y : Int) (d + 6) ns (P.take (y + 1)) := by
  obtain ⟨h0, h⟩ := kx_cons h
  obtain ⟨h1, h⟩ := kx_cons h
  obtain ⟨h2, h⟩ := kx_cons h
  refine gd_up (q := fun n => whoP T ⟨d, ns, P.take y, os⟩ z) ?_ (fun n => who_w n hz h0)
  refine gd_eq (q := fun n => bnd (markP T ⟨d + 1, ns, P.take y, os⟩ [46]) fun _ s1 => bnd (fieldP T s1) fun k s2 => if k = 18 then bnd (namedP T s2) fun t s3 => putP s3 ⟨18, t, z, []⟩ ((tk T d).a : Int) else putP s2 ⟨k, ⟨#[]⟩, z, []⟩ ((tk T d).a : Int)) ?_ fun n => ?_
  · refine gd_bnd (gd_mark h1) fun os1 => gd_bnd (fld_at h2 (k := 18) (.inr (.inr (.inr ⟨rfl, rfl⟩)))) fun os2 => ?_
    refine gd_eq (q := fun n => bnd (namedP T ⟨d + 1 + 1 + 1, ns, P.take y, os2⟩) fun t s3 => putP s3 ⟨18, t, z, []⟩ ((tk T d).a : Int)) (gd_bnd (gd_named h) fun os3 => gd_put hy hp.symm _ _ _ _) fun n => ?_
    rw [if_pos rfl]
  · show (if nm T (d + 1) [91] = true then _ else _) = _
    rw [nm_km h1, if_neg (by decide)]
    rfl
theorem unit_word (n : Nat) {m : List UInt8} (h : kq (tk T d) = kw m) : gr T (n + 1) .unit ⟨d, ns, ps, os⟩ = atomP T (gr T n .expr) (gr T n .term) ⟨d, ns, ps, os⟩ := by
  have h1 := kq_at h
  exact unit_atom n (nm_no (by rw [h1.1]; decide) _) (nm_no (by rw [h1.1]; decide) _)
theorem atom_w {m : List UInt8} (h : kq (tk T d) = kw m) (ex te : PS → PRes Int) : atomP T ex te ⟨d, ns, ps, os⟩ = (if m = [116, 114, 117, 101] then constP T ⟨d, ns, ps, os⟩ 1 else if m = [102, 97, 108, 115, 101] then constP T ⟨d, ns, ps, os⟩ 2 else if m = [110, 101, 97, 114] then selP T ex 8 ⟨d, ns, ps, os⟩ else if m = [97, 112, 97, 114, 116] then selP T ex 9 ⟨d, ns, ps, os⟩ else if m = [116, 111, 108, 101, 114, 97, 116, 101, 100] then tolP T ⟨d, ns, ps, os⟩ else compP T te ⟨d, ns, ps, os⟩) := by
  have h1 := kq_at h
  have ht : (tk T d).text.toList = m := by rw [h1.2.1, S_list]
  unfold atomP
  show (if (tk T d).kind = 3 then (if (tk T d).text.toList = _ then _ else if (tk T d).text.toList = _ then _ else if (tk T d).text.toList = _ then _ else if (tk T d).text.toList = _ then _ else if (tk T d).text.toList = _ then _ else _) else _) = _
  rw [if_pos h1.1, ht]
theorem rd_1 {P : List Pt} {y : Nat} (hy : y < P.length) {k : Int} {m : List UInt8} (hk : (k = 1 ∧ m = [116, 114, 117, 101]) ∨ (k = 2 ∧ m = [102, 97, 108, 115, 101])) (hp : pt P y = ⟨k, ⟨#[]⟩, 0, []⟩) (h : kq (tk T d) = kw m) : Gd (fun n => gr T n .unit ⟨d, ns, P.take y, os⟩) (y : Int) (d + 1) ns (P.take (y + 1)) := by
  refine gd_up (gd_put hy hp.symm (d + 1) ns os ((tk T d).a : Int)) fun n => ?_
  rw [unit_word n h, atom_w h]
  rcases hk with ⟨rfl, rfl⟩ | ⟨rfl, rfl⟩
  · rw [if_pos rfl]; rfl
  · rw [if_neg (by decide), if_pos rfl]; rfl
theorem rd_10 {P : List Pt} {y : Nat} (hy : y < P.length) {x : ByteArray} (hp : pt P y = ⟨10, x, 0, []⟩) (h : Kx T d [kw [116, 111, 108, 101, 114, 97, 116, 101, 100], km [40], kt x, km [41]]) : Gd (fun n => gr T n .unit ⟨d, ns, P.take y, os⟩) (y : Int) (d + 4) ns (P.take (y + 1)) := by
  obtain ⟨h0, h⟩ := kx_cons h
  refine gd_up (q := fun n => bnd (namedP T ⟨d + 1, ns, P.take y, os⟩) fun t s1 => putP s1 ⟨10, t, 0, []⟩ ((tk T d).a : Int)) (gd_bnd (gd_named h) fun os1 => gd_put hy hp.symm _ _ _ _) fun n => ?_
  rw [unit_word n h0, atom_w h0, if_neg (by decide), if_neg (by decide), if_neg (by decide), if_neg (by decide), if_pos rfl]
  rfl
end
end Go.Proofs.YtlhlpamciafocaaGreatDoor.L
