import Derived.Test.YtdhjoimiejdgbaaDoorTqv
import Derived.Test.YtdhjoimiejdgbaaDoorCpd
namespace Go.Proofs.YtdhjoimiejdgbaaDoor.L
open Go.RowKit Bs Go.Maps
set_option linter.unusedVariables false
/-- The value that a thing is made anew: three times it, and the number of the call. -/
def nwV (v : Int) (q : Nat) : Int := IntKind.i64.wrap (IntKind.i64.wrap (3 * v) + ((q : Int) + 1))
/-- How many names stand below slot k. -/
def idx (l : List Rw) (k : Nat) : Nat := (tkK (bs l) k).length
theorem idx_le (l : List Rw) (k : Nat) : idx l k ≤ k := tkK_len (bs l) k
theorem idx_yes {l : List Rw} {k : Nat} (h : isT l k = true) : idx l (k + 1) = idx l k + 1 := by
  unfold idx
  rw [tkK, nmS_bs, if_neg (isT_iff.1 h)]
  simp
theorem idx_no {l : List Rw} {k : Nat} (h : isT l k = false) : idx l (k + 1) = idx l k := by
  unfold idx
  rw [tkK, nmS_bs, if_pos (by rw [isT_no.1 h]; rfl)]
  simp
/-- The rows, those below k made anew. -/
def rnK (l : List Rw) (k : Nat) : List Rw := (List.range l.length).map fun j => (nm l j, if j < k ∧ isT l j = true then nwV (vlu l j) (idx l j) else vlu l j)
theorem rnK_len (l : List Rw) (k : Nat) : (rnK l k).length = l.length := by unfold rnK; simp
theorem rnK_get (l : List Rw) (k j : Nat) (h : j < l.length) : (rnK l k)[j]? = some (nm l j, if j < k ∧ isT l j = true then nwV (vlu l j) (idx l j) else vlu l j) := by
  unfold rnK
  rw [List.getElem?_map, List.getElem?_range h]
  rfl
theorem rnK_zero (l : List Rw) : rnK l 0 = l := by
  apply List.ext_getElem?
  intro j
  by_cases h : j < l.length
  · rw [rnK_get l 0 j h, if_neg (by omega), List.getElem?_eq_getElem h, nm_at h, vlu_at h]
  · rw [List.getElem?_eq_none (by rw [rnK_len]; omega), List.getElem?_eq_none (by omega)]
theorem rnK_yes {l : List Rw} {k : Nat} (h : isT l k = true) : (rnK l k).set k (nm l k, nwV (vlu l k) (idx l k)) = rnK l (k + 1) := by
  have hk := isT_lt h
  apply List.ext_getElem?
  intro j
  rw [List.getElem?_set, rnK_len]
  by_cases hj : j < l.length
  · rw [rnK_get l k j hj, rnK_get l (k + 1) j hj]
    by_cases c : k = j
    · subst c
      rw [if_pos rfl, if_pos hj, if_pos ⟨by omega, h⟩]
    · rw [if_neg c]
      by_cases c2 : j < k
      · by_cases t : isT l j = true
        · rw [if_pos ⟨c2, t⟩, if_pos ⟨by omega, t⟩]
        · rw [if_neg (fun q => t q.2), if_neg (fun q => t q.2)]
      · rw [if_neg (fun q => c2 q.1), if_neg (fun q => by have := q.1; omega)]
  · rw [if_neg (by omega), List.getElem?_eq_none (by rw [rnK_len]; omega), List.getElem?_eq_none (by rw [rnK_len]; omega)]
theorem rnK_no {l : List Rw} {k : Nat} (h : isT l k = false) : rnK l (k + 1) = rnK l k := by
  unfold rnK
  apply List.map_congr_left
  intro j hj
  by_cases c : j = k
  · subst c
    rw [if_neg (fun q => by rw [h] at q; cases q.2), if_neg (fun q => by omega)]
  · by_cases c2 : j < k
    · by_cases t : isT l j = true
      · rw [if_pos ⟨by omega, t⟩, if_pos ⟨c2, t⟩]
      · rw [if_neg (fun q => t q.2), if_neg (fun q => t q.2)]
    · rw [if_neg (fun q => by omega), if_neg (fun q => c2 q.1)]
theorem rnK_nm (l : List Rw) (k j : Nat) : nm (rnK l k) j = nm l j := by
  by_cases h : j < l.length
  · unfold nm
    rw [rnK_get l k j h, List.getElem?_eq_getElem h]
    have := nm_at h
    show nm l j = (l[j]).1
    exact this
  · rw [nm_out (by rw [rnK_len]; omega), nm_out (by omega)]
theorem rnK_isT (l : List Rw) (k j : Nat) : isT (rnK l k) j = isT l j := by unfold isT; rw [rnK_nm]
theorem rnK_vlu {l : List Rw} {j : Nat} (h : isT l j = true) : vlu (rnK l l.length) j = nwV (vlu l j) (idx l j) := by
  have hj := isT_lt h
  unfold vlu
  rw [rnK_get l l.length j hj, if_pos ⟨hj, h⟩]
  rfl
theorem cnt_nm : ∀ (l l' : List Rw), l'.length = l.length → (∀ j, nm l' j = nm l j) → cnt l' = cnt l
  | [], [], _, _ => rfl
  | [], _ :: _, h, _ => by simp at h
  | _ :: _, [], h, _ => by simp at h
  | x :: l, y :: l', h, hn => by
    have h0 := hn 0
    rw [nm_cons_zero, nm_cons_zero] at h0
    unfold cnt
    rw [h0, cnt_nm l l' (by simpa using h) (fun j => by have := hn (j + 1); rwa [nm_cons_succ, nm_cons_succ] at this)]
theorem rnK_cnt (l : List Rw) (k : Nat) : cnt (rnK l k) = cnt l := cnt_nm _ _ (rnK_len l k) (rnK_nm l k)
theorem rnK_ok {m : Nat} {l : List Rw} (h : OkS m l) (k : Nat) : OkS m (rnK l k) := by
  refine ⟨h.mm, fun i => by rw [rnK_nm]; exact h.sz i, fun i j hi hij => h.ap i j (by rw [← rnK_isT l k]; exact hi) (by rw [← rnK_nm l k, ← rnK_nm l k j]; exact hij), ?_, by rw [rnK_cnt]; exact h.ct, by rw [rnK_len]; exact h.le⟩
  refine tl_one _ _ (Nat.le_refl _) (fun j hj => isT_out hj) ?_
  rw [rnK_isT, rnK_len]
  exact h.last
/-- What of was called with, below slot k. -/
def clK (l : List Rw) (k : Nat) : List Int := (tkK (bs l) k).map fun x => vlu l x.1
theorem clK_len (l : List Rw) (k : Nat) : (clK l k).length = idx l k := by unfold clK idx; simp
theorem clK_yes {l : List Rw} {k : Nat} (h : isT l k = true) : clK l (k + 1) = clK l k ++ [vlu l k] := by
  unfold clK
  rw [tkK, nmS_bs, if_neg (isT_iff.1 h)]
  simp
theorem clK_no {l : List Rw} {k : Nat} (h : isT l k = false) : clK l (k + 1) = clK l k := by
  unfold clK
  rw [tkK, nmS_bs, if_pos (by rw [isT_no.1 h]; rfl)]
  simp
/-- The document's rows by slot, each made anew. -/
def nwD (rows : List Dr) : Nat → List Dr
  | 0 => []
  | q + 1 => nwD rows q ++ [(ds rows q, dn rows q, nwV (dl rows q) q)]
theorem nwD_len (rows : List Dr) : ∀ q, (nwD rows q).length = q
  | 0 => rfl
  | q + 1 => by rw [nwD, List.length_append, nwD_len rows q]; rfl
theorem nwD_get (rows : List Dr) : ∀ (q j : Nat), j < q → (nwD rows q)[j]? = some (ds rows j, dn rows j, nwV (dl rows j) j)
  | 0, j, h => by omega
  | q + 1, j, h => by
    rw [nwD]
    by_cases c : j < q
    · rw [List.getElem?_append_left (by rw [nwD_len]; exact c)]
      exact nwD_get rows q j c
    · obtain rfl : j = q := by omega
      rw [List.getElem?_append_right (by rw [nwD_len]; exact Nat.le_refl _), nwD_len, Nat.sub_self]
      rfl
theorem ds_l (a : List Dr) (x : Dr) (j : Nat) (h : j < a.length) : ds (a ++ [x]) j = ds a j ∧ dn (a ++ [x]) j = dn a j ∧ dl (a ++ [x]) j = dl a j := by
  have g : (a ++ [x])[j]? = a[j]? := List.getElem?_append_left h
  unfold ds dn dl
  rw [g]
  exact ⟨rfl, rfl, rfl⟩
theorem ds_r (a : List Dr) (x : Dr) : ds (a ++ [x]) a.length = x.1 ∧ dn (a ++ [x]) a.length = x.2.1 ∧ dl (a ++ [x]) a.length = x.2.2 := by
  have g : (a ++ [x])[a.length]? = some x := by rw [List.getElem?_append_right (Nat.le_refl _), Nat.sub_self]; rfl
  unfold ds dn dl
  rw [g]
  exact ⟨rfl, rfl, rfl⟩
/-- The j-th of the rows by slot: its slot has j names below it, its value is the table's. -/
theorem Rel.bsAt {l : List Rw} {d : List Dr} (h : Rel l d) : ∀ (k j : Nat), j < (bsD d k).length → isT l (ds (bsD d k) j) = true ∧ nm l (ds (bsD d k) j) = dn (bsD d k) j ∧ vlu l (ds (bsD d k) j) = dl (bsD d k) j ∧ idx l (ds (bsD d k) j) = j ∧ ds (bsD d k) j < k
  | 0, j, hj => by simp [bsD] at hj
  | k + 1, j, hj => by
    have ih := Rel.bsAt h k
    have hlen : (bsD d k).length = idx l k := by
      have := congrArg List.length (h.bys k)
      unfold prD at this
      rw [List.length_map] at this
      exact this
    rcases h.at_ (k : Int) with ⟨hn, e⟩ | ⟨q, e, hq, hs, ht, hm, hvv⟩
    · have e2 : bsD d (k + 1) = bsD d k := by rw [bsD, if_pos e, List.append_nil]
      rw [e2] at hj ⊢
      obtain ⟨a, b, c, f, g⟩ := ih j hj
      exact ⟨a, b, c, f, by omega⟩
    · have hk : ds d q = k := by omega
      have e2 : bsD d (k + 1) = bsD d k ++ [(ds d q, dn d q, dl d q)] := by rw [bsD, if_neg (by omega), e, Int.toNat_natCast]
      rw [e2] at hj ⊢
      rw [List.length_append] at hj
      by_cases c : j < (bsD d k).length
      · obtain ⟨a, b, c2, f, g⟩ := ih j c
        obtain ⟨d0, d1, d2⟩ := ds_l (bsD d k) (ds d q, dn d q, dl d q) j c
        rw [d0, d1, d2]
        exact ⟨a, b, c2, f, by omega⟩
      · obtain rfl : j = (bsD d k).length := by simp at hj; omega
        obtain ⟨d0, d1, d2⟩ := ds_r (bsD d k) (ds d q, dn d q, dl d q)
        rw [d0, d1, d2]
        show isT l (ds d q) = true ∧ nm l (ds d q) = dn d q ∧ vlu l (ds d q) = dl d q ∧ idx l (ds d q) = _ ∧ ds d q < k + 1
        rw [hk] at ht hm hvv ⊢
        exact ⟨ht, hm, hvv, hlen.symm, Nat.lt_succ_self _⟩
theorem Rel.anew {m : Nat} {l : List Rw} {d : List Dr} (h : Rel l d) (ok : OkS m l) : Rel (rnK l l.length) (nwD (bsD d (spanD d)) (bsD d (spanD d)).length) := by
  have hsp := h.span ok.tr
  generalize hrows : bsD d (spanD d) = rows
  have hb : ∀ j, j < rows.length → isT l (ds rows j) = true ∧ nm l (ds rows j) = dn rows j ∧ vlu l (ds rows j) = dl rows j ∧ idx l (ds rows j) = j := fun j hj => by
    subst hrows
    obtain ⟨a, b, c, f, _⟩ := h.bsAt (spanD d) j hj
    exact ⟨a, b, c, f⟩
  have hpr : prD rows = tk (bs l) := by subst hrows; exact h.bys_all ok.tr
  have hmap : (nwD rows rows.length).map (·.1) = (prD rows).map (·.1) := by
    apply List.ext_getElem?
    intro j
    unfold prD
    rw [List.getElem?_map, List.getElem?_map, List.getElem?_map]
    by_cases hj : j < rows.length
    · rw [nwD_get rows rows.length j hj, List.getElem?_eq_getElem hj]
      show some (ds rows j) = some (rows[j]).1
      rw [ds_at hj]
    · rw [List.getElem?_eq_none (by rw [nwD_len]; omega), List.getElem?_eq_none (by omega)]
      rfl
  refine ⟨fun x hx => ?_, ?_, fun i hi => ?_⟩
  · obtain ⟨j, hj, rfl⟩ := List.getElem_of_mem hx
    have hj' : j < rows.length := by rw [nwD_len] at hj; exact hj
    have e : (nwD rows rows.length)[j] = (ds rows j, dn rows j, nwV (dl rows j) j) := by
      have := nwD_get rows rows.length j hj'
      rw [List.getElem?_eq_getElem hj] at this
      injection this
    rw [e]
    obtain ⟨a, b, c, f⟩ := hb j hj'
    refine ⟨by rw [rnK_isT]; exact a, by rw [rnK_nm]; exact b, ?_⟩
    rw [rnK_vlu a, c, f]
  · rw [hmap, hpr]
    have : (tk (bs l)).Pairwise (fun x y => x.1 < y.1) := by
      unfold tk
      generalize (bs l).length = n
      induction n with
      | zero => simp [tkK]
      | succ n ih =>
        rw [tkK, List.pairwise_append]
        refine ⟨ih, by split <;> simp, fun a ha b hb => ?_⟩
        have h1 := ((tkK_mem (bs l) a n).1 ha).1
        split at hb
        · cases hb
        · simp at hb; subst hb; exact h1
    unfold List.Nodup
    rw [List.pairwise_map]
    exact this.imp (fun h e => by omega)
  · rw [rnK_isT] at hi
    have : (i, nm l i) ∈ prD rows := by rw [hpr, tk_mem]; exact ⟨hi, rfl⟩
    have h2 : i ∈ (prD rows).map (·.1) := List.mem_map.2 ⟨_, this, rfl⟩
    rw [← hmap] at h2
    obtain ⟨x, hx, e⟩ := List.mem_map.1 h2
    exact ⟨x, hx, e⟩
theorem nwV_law (v : Int) (q : Nat) (hq : q ≤ 65536) : IntKind.i64.wrap (IntKind.i64.wrap (IntKind.i64.wrap (3 * v) + (q : Int)) + 1) = nwV v q := by
  unfold nwV
  rw [IntKind.wrap_i64, IntKind.wrap_i64, IntKind.wrap_i64, IntKind.wrap_i64]
  omega
end Go.Proofs.YtdhjoimiejdgbaaDoor.L
namespace Go.Proofs.YtdhjoimiejdgbaaDoor.L
open Go.RowKit Bs Go.Maps
set_option linter.unusedVariables false
theorem infoI : (Tryd.prog.info? 3).map (fun i => (i.zero, i.size, i.bytes)) = some (some (.int .i64 0), 1, 8) := by kernel_rfl
abbrev cellsI (cs : List Int) : List Value := cs.map fun x => Value.int .i64 x
/-- The list of the calls, in its box. -/
structure Cl (W : World) (base Cb : Nat) (cv : Value) (cs : List Int) : Prop where
  bx : Boxed W Cb 84 cv
  ow : W.ownsRow base 3 1 cv cs.length (cellsI cs)
set_option maxHeartbeats 4000000 in
set_option maxRecDepth 100000 in
theorem clo_any (base Cb : Nat) (cv : Value) (cs : List Int) (v : Int) (W : World) (h : Cl W base Cb cv cs) (hb : base ≤ W.heap.size) (hl : cs.length ≤ 65536) :
    Calls Tryd.prog 46 #[.int .i64 v, .pointer (some ⟨Cb, 0, none⟩)] W fun e w' => ∃ cv', e = .returned (.int .i64 (nwV v cs.length)) ∧ Cl w' base Cb cv' (cs ++ [v]) ∧ Bx (Cb :: cv.ownBlock.toList) W.heap.size W w' := by
  obtain ⟨i0, hi, hz0, hz1, hz2⟩ := info_parts infoI
  have hc := h.bx.cell
  have hf := h.bx.frozen
  have HV := hid h.bx
  have HR := hid h.ow
  have hlt := h.bx.lt
  have NB := hid (h.bx.not_row (by decide) h.ow)
  clear h
  generalize hQ : (fun (e : Ending) (w' : World) => ∃ cv', e = .returned (.int .i64 (nwV v cs.length)) ∧ Cl w' base Cb cv' (cs ++ [v]) ∧ Bx (Cb :: cv.ownBlock.toList) W.heap.size W w') = Q
  have HQ := hid hQ
  clear hQ
  generalize hn : cs.length = n at *
  have HN := hid hn
  clear hn
  have hw : IntKind.i64.wrap ((n : Int) + 1) = (n : Int) + 1 := by rw [IntKind.wrap_i64]; omega
  go_enter Tryd.func46, Tryd.ntmps46
  go_wp2_with (at_builtin; refine Classical.byContradiction (fun hgoal => ?_))
  apply hgoal
  clear hgoal
  refine wpList_append_own _ rfl _ _ 84 rfl base 3 i0 (.int .i64 0) 1 8 Tryd.underlying84 hi hz0 hz1 hz2 rfl (by decide) _ _ _ rfl (HR.out.alloc _) ⟨W.heap.size, 0, none⟩ 1 1 [.int .i64 v] rfl rfl (cell_one_new _ _ _) (fun u hu => by simp at hu; subst hu; rfl) (by unfold maxLen; omega) (by omega) (by simp; omega) ?_
  intro v' w4 hown' hgrow hnil
  clear hnil
  obtain ⟨g', cap', e7⟩ := own_some hown' (by omega)
  subst e7
  have hv1 := (HV.out.alloc (.cells #[.int .i64 v] 3)).kept hgrow NB.out
  have hv2 := hv1.set (.slice (some ⟨g', 0, none⟩) (n + 1) cap')
  have hne := hv1.not_row (by decide) hown'
  have hr2 : (w4.setCell ⟨Cb, 0, none⟩ (.slice (some ⟨g', 0, none⟩) (n + 1) cap')).ownsRow base 3 1 (.slice (some ⟨g', 0, none⟩) (n + 1) cap') (n + 1) (cellsI cs ++ [.int .i64 v]) := own_stays hown' (fun g hg => set_other _ _ (fun e => hne (by rw [← e]; exact hg.symm)))
  have hc1 := hv1.cell
  have hf1 := hv1.frozen
  have hc2 := hv2.cell
  have BX := hid ((((Bx.refl (Cb :: cv.ownBlock.toList) W.heap.size W).alloc (Nat.le_refl _) (.cells #[.int .i64 v] 3)).grown hgrow (by simp) (fun k hk => Or.inl (by
    have : cv.ownBlock = some k := hk
    rw [this]; simp))).setCell (p := ⟨Cb, 0, none⟩) (Or.inl (by simp)) (.slice (some ⟨g', 0, none⟩) (n + 1) cap'))
  have HC : Hid (Cl (w4.setCell ⟨Cb, 0, none⟩ (.slice (some ⟨g', 0, none⟩) (n + 1) cap')) base Cb (.slice (some ⟨g', 0, none⟩) (n + 1) cap') (cs ++ [v])) := hid ⟨hv2, by
    rw [List.length_append, HN.out]
    unfold cellsI
    rw [List.map_append]
    exact hr2⟩
  clear hown' hgrow hv1 hv2 hr2 hne
  go_wp2_with fail
  rw [← HQ.out]
  refine ⟨_, ?_, HC.out, BX.out⟩
  rw [show nwV v n = wrap64 (wrap64 (3 * v) + ((n : Int) + 1)) by unfold nwV; rw [wrap64_eq, wrap64_eq]]
  rfl
end Go.Proofs.YtdhjoimiejdgbaaDoor.L
