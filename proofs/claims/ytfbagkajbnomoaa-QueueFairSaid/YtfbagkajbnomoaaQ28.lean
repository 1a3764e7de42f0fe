import Derived.Test.YtfbagkajbnomoaaQ27
namespace Go.Proofs.Ytfbagkajbnomoaa.L
open Go.RowKit Rg Qu
set_option linter.unusedVariables false
set_option linter.unusedSimpArgs false
/-! Nobody is lost, nobody comes twice: pure, and what stays in memory. -/
def nms (l : List Wt) : List ByteArray := l.map (·.name)
theorem ins_perm (x : Wt) : ∀ l : List Wt, (ins x l).Perm (x :: l)
  | [] => List.Perm.refl _
  | y :: r => by
    unfold ins
    split
    · exact ((ins_perm x r).cons y).trans (List.Perm.swap x y r)
    · exact List.Perm.refl _
theorem nms_push {l : List Wt} {nx : Int} {s : ByteArray} {p : Int} {I : List ByteArray} (hI : I.Perm (nms l)) (h : pshE l nx s = 0) : (I ++ [s]).Perm (nms (pshL l nx s p)) := by
  unfold pshL
  rw [if_pos h]
  have h1 : (nms (ins ⟨s, p, nx, 0, 0, false⟩ l)).Perm (s :: nms l) := by
    unfold nms
    exact (ins_perm _ l).map _
  refine List.Perm.trans ?_ h1.symm
  refine List.Perm.trans List.perm_append_comm ?_
  exact hI.cons s
theorem psh_no {l : List Wt} {nx : Int} {s : ByteArray} {p : Int} (h : ¬ pshE l nx s = 0) : pshL l nx s p = l := by
  unfold pshL
  rw [if_neg h]
theorem fnd_mem {s : ByteArray} {l : List Wt} : fnd s l < l.length ↔ s ∈ nms l := by
  constructor
  · intro h
    unfold nms
    exact List.mem_map.2 ⟨l[fnd s l], List.getElem_mem h, bytes_ext (fnd_at h)⟩
  · intro h
    apply Classical.byContradiction
    intro hn
    obtain ⟨x, hx, e⟩ := List.mem_map.1 h
    exact fnd_out hn x hx e
theorem perm_erase {l : List ByteArray} {k : Nat} (hk : k < l.length) : l.Perm (l[k] :: l.eraseIdx k) := by
  have e : l = l.take k ++ l[k] :: l.drop (k + 1) := by rw [← List.drop_eq_getElem_cons hk, List.take_append_drop]
  rw [List.eraseIdx_eq_take_drop_succ]
  conv => lhs; rw [e]
  exact List.perm_middle
theorem nms_erase (l : List Wt) (k : Nat) : (nms l).eraseIdx k = nms (l.eraseIdx k) := by
  unfold nms
  rw [List.eraseIdx_eq_take_drop_succ, List.eraseIdx_eq_take_drop_succ, List.map_append, List.map_take, List.map_drop]
theorem nms_get {l : List Wt} {k : Nat} (hk : k < l.length) (h2 : k < (nms l).length) : (nms l)[k] = l[k].name := List.getElem_map (fun x : Wt => x.name)
theorem at_mid {l A B : List Wt} {x : Wt} (e : l = A ++ x :: B) : ∃ hk : A.length < l.length, l[A.length] = x ∧ l.eraseIdx A.length = A ++ B ∧ ∀ (j : Nat) (h : j < A.length), (l[j]'(Nat.lt_trans h hk)) = A[j] := by
  subst e
  refine ⟨by simp, by simp, ?_, fun j h => by rw [List.getElem_append_left h]⟩
  rw [List.eraseIdx_append_of_length_le (Nat.le_refl _), Nat.sub_self, List.eraseIdx_cons_zero]
theorem nms_take {l : List Wt} {s : ByteArray} {I : List ByteArray} (hI : I.Perm (nms l)) : (wo s I).Perm (nms (tkeL l s)) ∧ (tkeE l s = 0 ↔ (wo s I).length < I.length) := by
  unfold tkeL tkeE
  by_cases h : fnd s l < l.length
  · rw [if_pos h, if_pos h]
    have hm : s ∈ I := hI.mem_iff.2 (fnd_mem.1 h)
    refine ⟨?_, by have := wo_in hm; simp; omega⟩
    have hk : fnd s l < (nms l).length := by unfold nms; rw [List.length_map]; exact h
    have h1 := wo_perm (s := s) (hI.trans (perm_erase hk))
    have h2 : (nms l)[fnd s l] = s := (nms_get h hk).trans (bytes_ext (fnd_at h))
    rw [h2, wo_self, nms_erase] at h1
    exact h1
  · rw [if_neg h, if_neg h]
    have hm : ¬ s ∈ I := fun e => h (fnd_mem.2 (hI.mem_iff.1 e))
    rw [wo_out hm]
    exact ⟨hI, by simp⟩
theorem nms_park (l : List Wt) (s : ByteArray) (now : Int) : nms (prkL l s now) = nms l := by
  unfold prkL
  split
  · by_cases h : fnd s l < l.length
    · rw [prk_set h]
      unfold nms
      rw [List.map_set]
      have e : (prkX l[fnd s l] now).name = (l.map (·.name))[fnd s l]'(by rw [List.length_map]; exact h) := by rw [List.getElem_map]; rfl
      rw [e, List.set_getElem_self]
    · unfold prk
      rw [List.getElem?_eq_none (by omega)]
  · rfl
theorem nms_wake (l : List Wt) : nms (wks l) = nms l := by
  unfold nms wks
  rw [List.map_map]
  rfl
theorem nms_len (l : List Wt) : (nms l).length = l.length := by unfold nms; rw [List.length_map]
theorem okq_sub {l m : List Wt} {nx : Int} (h : Okq l nx) (sub : m.Sublist l) : Okq m nx :=
  ⟨h.sort.sublist sub, h.names.sublist sub, h.seqs.sublist sub, fun x hx => h.lo x (sub.mem hx), fun x hx => h.tr x (sub.mem hx), fun x hx => h.ti x (sub.mem hx), Nat.le_trans sub.length_le h.few, h.nx0, h.nx1⟩
/-- What is left of the queue at the i-th turn. -/
def frs (L : List Wt) (i : Nat) : List Wt := (L.take i).filter (fun x => decide (1099511627776 < x.til)) ++ L.drop i
theorem frs_zero (L : List Wt) : frs L 0 = L := by simp [frs]
theorem frs_sub (L : List Wt) (i : Nat) : (frs L i).Sublist L := by
  have h : (frs L i).Sublist (L.take i ++ L.drop i) := (List.filter_sublist).append (List.Sublist.refl _)
  rw [List.take_append_drop] at h
  exact h
theorem frs_stay {L : List Wt} {i : Nat} (hi : i < L.length) (h : ¬ L[i].til ≤ 1099511627776) : frs L (i + 1) = frs L i := by
  unfold frs
  rw [List.take_succ_eq_append_getElem hi, List.filter_append, List.drop_eq_getElem_cons hi, List.append_assoc]
  congr 1
  rw [List.filter_cons_of_pos (by simp; omega)]
  rfl
theorem frs_go {L : List Wt} {i : Nat} (hi : i < L.length) (h : L[i].til ≤ 1099511627776) (ha : L[i].asl = false) : ∃ (k : Nat) (hk : k < (frs L i).length), (frs L i)[k] = L[i] ∧ (frs L i).eraseIdx k = frs L (i + 1) ∧ rdy (frs L i) 1099511627776 = some L[i] := by
  have hd : L.drop i = L[i] :: L.drop (i + 1) := List.drop_eq_getElem_cons hi
  obtain ⟨A, hA⟩ : ∃ A, A = (L.take i).filter (fun x => decide (1099511627776 < x.til)) := ⟨_, rfl⟩
  have hf : frs L i = A ++ L[i] :: L.drop (i + 1) := by
    unfold frs
    rw [hd, hA]
  have hf2 : frs L (i + 1) = A ++ L.drop (i + 1) := by
    unfold frs
    rw [List.take_succ_eq_append_getElem hi, List.filter_append, List.filter_cons_of_neg (by simp; omega), List.filter_nil, List.append_nil, hA]
  obtain ⟨hk, e1, e2, e3⟩ := at_mid hf
  refine ⟨A.length, hk, e1, e2.trans hf2.symm, ?_⟩
  rw [← e1]
  refine rdy_at (by decide) (by decide) hk ?_ (fun j hj => ?_)
  · rw [e1]
    unfold rdyB
    rw [ha]
    simpa using h
  · rw [e3 j hj]
    obtain ⟨y, hy⟩ : ∃ y, y = A[j] := ⟨_, rfl⟩
    have hm2 : y ∈ (L.take i).filter (fun x => decide (1099511627776 < x.til)) := hA ▸ (hy ▸ List.getElem_mem hj)
    have h2 : 1099511627776 < y.til := by simpa using (List.mem_filter.1 hm2).2
    rw [← hy]
    unfold rdyB
    have h3 : decide (y.til ≤ 1099511627776) = false := by
      rw [decide_eq_false_iff_not]
      omega
    rw [h3, Bool.and_false]
/-- The turn of one. -/
theorem fair_turn {L : List Wt} {nx : Int} (h : Okq L nx) {i : Nat} (hi : i < L.length) (ht : L[i].til ≤ 1099511627776) (ha : L[i].asl = false) : rdyN (frs L i) 1099511627776 = L[i].name ∧ rdyK (frs L i) 1099511627776 = true ∧ tkeE (frs L i) L[i].name = 0 ∧ tkeX (frs L i) L[i].name = L[i] ∧ tkeL (frs L i) L[i].name = frs L (i + 1) := by
  obtain ⟨k, hk, e1, e2, e3⟩ := frs_go hi ht ha
  have hf : fnd L[i].name (frs L i) = k := by
    rw [← e1]
    exact fnd_self (okq_sub h (frs_sub L i)) hk
  refine ⟨by unfold rdyN; rw [e3], by unfold rdyK; rw [e3]; rfl, by unfold tkeE; rw [hf, if_pos hk], ?_, by unfold tkeL; rw [hf, if_pos hk]; exact e2⟩
  unfold tkeX
  simp only [hf]
  rw [dif_pos hk]
  exact e1
theorem left_turn {L : List Wt} {i : Nat} (hi : i < L.length) {J : List ByteArray} (hJ : J.Perm (nms (L.drop i))) : (wo L[i].name J).Perm (nms (L.drop (i + 1))) ∧ (wo L[i].name J).length + 1 = J.length ∧ J.length = L.length - i := by
  have hd : nms (L.drop i) = L[i].name :: nms (L.drop (i + 1)) := by
    rw [List.drop_eq_getElem_cons hi]
    rfl
  have h1 := wo_perm (s := L[i].name) hJ
  rw [hd, wo_self] at h1
  refine ⟨h1, wo_in (hJ.mem_iff.2 (by rw [hd]; exact List.mem_cons_self)), ?_⟩
  rw [hJ.length_eq, nms_len, List.length_drop]
/-- The queue stays where a row of another kind grows. -/
theorem qm_grown {W W' : World} {B qb b n s : Nat} {t : TypeId} {v u : Value} {l : List Wt} {nx : Int} {xs : List Value} (h : Qm W B qb v l nx) (hu : W.ownsRow b t s u n xs) (h1 : t ≠ 61) (h2 : t ≠ 63) (k : W.grownBy W' u.ownBlock) : Qm W' B qb v l nx := by
  refine ⟨box_grow hu h.box h1 k, row_kept h.row (fun j hj => k.block j (row_at h.row hj).2.1 (fun e => ?_)), h.lo⟩
  obtain ⟨c1, g1⟩ := row_blk hu e.symm
  obtain ⟨c2, g2⟩ := row_blk h.row hj
  rw [g1] at g2
  injection g2 with g2
  injection g2 with _ g2
  exact h2 g2
theorem row_grown {W W' : World} {B b n n2 s s2 : Nat} {t t2 : TypeId} {v u : Value} {xs ys : List Value} (h : W.ownsRow B t2 s2 v n2 ys) (hu : W.ownsRow b t s u n xs) (h1 : t ≠ t2) (k : W.grownBy W' u.ownBlock) : W'.ownsRow B t2 s2 v n2 ys := by
  refine row_kept h (fun j hj => k.block j (row_at h hj).2.1 (fun e => ?_))
  obtain ⟨c1, g1⟩ := row_blk hu e.symm
  obtain ⟨c2, g2⟩ := row_blk h hj
  rw [g1] at g2
  injection g2 with g2
  injection g2 with _ g2
  exact h1 g2
end Go.Proofs.Ytfbagkajbnomoaa.L
