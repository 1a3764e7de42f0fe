import Derived.Test.YtiddnjjaidiohaaGreatDoorMgAZ
import Derived.Deep.Cut
namespace Go.Proofs.YtiddnjjaidiohaaGreatDoor.L.Kp
open Go.RowKit Go.Shelf
set_option linter.unusedVariables false
def fv_ (fl : List Value) (j : Nat) : Value := fl.getD j (.slice none 0 0)
/-- Eighteen lists of tokens in blocks of their own, and the list of them. -/
structure Fm (W : World) (base : Nat) (va : Value) (fl : List Value) (M : Nat → List Ty2) : Prop where
  all : W.ownsRow base 31 1 va 18 fl
  own : ∀ j, j < 18 → OwT W base (fv_ fl j) (M j)
  sep : ∀ i j, i < 18 → j < 18 → i ≠ j → (fv_ fl i).ownBlock = none ∨ (fv_ fl i).ownBlock ≠ (fv_ fl j).ownBlock
theorem Fm.low {W W' : World} {base : Nat} {va : Value} {fl : List Value} {M : Nat → List Ty2} (h : Fm W base va fl M) (hk : Below W.heap.size W W') : Fm W' base va fl M :=
  ⟨row_low h.all hk, fun j hj => row_low (h.own j hj) hk, h.sep⟩
/-- What touches the p-th row alone leaves the others. -/
theorem Fm.grown {W W' : World} {base p : Nat} {va : Value} {fl : List Value} {M : Nat → List Ty2} (h : Fm W base va fl M) (hp : p < 18) (hg : W.grownBy W' (fv_ fl p).ownBlock) (N : List Ty2) (hown : OwT W' base (fv_ fl p) N) : Fm W' base va fl (fun j => if j = p then N else M j) := by
  refine ⟨h.all.kept hg (row_ne h.all (h.own p hp) (by decide)), fun j hj => ?_, h.sep⟩
  by_cases e : j = p
  · simp only [if_pos e]
    rw [e]
    exact hown
  · simp only [if_neg e]
    exact World.ownsRow.kept (h.own j hj) hg (h.sep j p hj hp e)
theorem Fm.cell {W : World} {base : Nat} {va : Value} {fl : List Value} {M : Nat → List Ty2} (h : Fm W base va fl M) : ∃ A cp, va = .slice (some ⟨A, 0, none⟩) 18 cp ∧ A < W.heap.size ∧ base ≤ A ∧ ∀ j, j < 18 → W.cell? ⟨A, j, none⟩ = some (fv_ fl j) := by
  rcases h.all.2 with ⟨_, e⟩ | ⟨g, cap, cur, rfl, hb, hg, h3, h4, h5, h6⟩
  · cases e
  · refine ⟨g, cap, rfl, lt_blk hg, hb, fun j hj => ?_⟩
    rw [cell_of_row W g j _ _ _ hg]
    have hl : fl.length = 18 := by have := h.all.1; simpa using this
    have hx : fl[j]? = some (fv_ fl j) := by
      unfold fv_
      rw [List.getD_eq_getElem?_getD, List.getElem?_eq_getElem (by omega)]
      rfl
    have h6' : (cur.toList.take 18) = fl := h6
    have hy : (cur.toList.take 18)[j]? = some (fv_ fl j) := by rw [h6']; exact hx
    rw [List.getElem?_take_of_lt (by omega)] at hy
    simpa using hy
theorem fv_form {W : World} {base : Nat} {v : Value} {l : List Ty2} (h : OwT W base v l) : ∃ a cp, v = .slice a l.length cp ∧ (0 < l.length → ∃ g, a = some ⟨g, 0, none⟩ ∧ g < W.heap.size) := by
  rcases h.2 with ⟨e, n0⟩ | ⟨g, cap, cur, e, _, hg, _⟩
  · exact ⟨none, 0, by rw [e, n0], fun h => by omega⟩
  · exact ⟨_, _, e, fun _ => ⟨g, rfl, lt_blk hg⟩⟩
theorem infoS : (Tryz.prog.info? 31).map (fun i => (i.zero, i.size, i.bytes)) = some (some (.slice none 0 0), 1, 24) := by kernel_rfl
theorem funext_if {p : Nat} {M N : Nat → List Ty2} (h : ∀ j, N j = if j = p then N p else M j) : (fun j => if j = p then N p else M j) = N := funext fun j => (h j).symm
/-- The lists while they are written over: those ahead of k are done, k's to i. -/
def M1 (T : List Ty2) (k i j : Nat) : List Ty2 := if j < k then w9 j T.length else if j = k then mix T j i else T
theorem M1_next (T : List Ty2) (k : Nat) : M1 T k T.length = M1 T (k + 1) 0 := by
  funext j
  unfold M1
  by_cases h1 : j < k
  · rw [if_pos h1, if_pos (by omega)]
  · rw [if_neg h1]
    by_cases h2 : j = k
    · rw [if_pos h2, if_pos (by omega), h2, mix_all]
    · rw [if_neg h2, if_neg (by omega)]
      split
      · exact (mix_zero T j).symm
      · rfl
theorem M1_step (T : List Ty2) (k i : Nat) : (fun j => if j = k then mix T k (i + 1) else M1 T k i j) = M1 T k (i + 1) := by
  funext j
  unfold M1
  by_cases h2 : j = k
  · rw [if_pos h2, if_neg (by omega), if_pos h2, h2]
  · rw [if_neg h2]
    by_cases h1 : j < k
    · rw [if_pos h1, if_pos h1]
    · rw [if_neg h1, if_neg h2, if_neg h1, if_neg h2]
theorem M1_at (T : List Ty2) (k i : Nat) : M1 T k i k = mix T k i := by unfold M1; rw [if_neg (by omega), if_pos rfl]
theorem M1_end (T : List Ty2) (j : Nat) (h : j < 18) : M1 T 18 0 j = w9 j T.length := by unfold M1; rw [if_pos h]
theorem M1_beg (T : List Ty2) : M1 T 0 0 = fun _ => T := by
  funext j
  unfold M1
  rw [if_neg (by omega)]
  split
  · exact mix_zero T j
  · rfl
theorem grown_alloc {W W' : World} {o : Obj} {row : Option Nat} (h : (W.alloc o).grownBy W' row) : W.grownBy W' row :=
  ⟨h.os, h.tape, h.output, by have := h.size; simp at this; omega, fun k hk hne => (h.block k (by simp; omega) hne).trans (Below.heap_alloc _ _ _ hk)⟩
theorem grown_refl (W : World) (row : Option Nat) : W.grownBy W row := ⟨rfl, rfl, rfl, Nat.le_refl _, fun _ _ _ => rfl⟩
/-- One more append to what has grown from the row. -/
theorem grown_on {W W1 W2 : World} {row gb : Option Nat} (h : W.grownBy W1 row) (hb : ∀ b, gb = some b → some b = row ∨ W.heap.size ≤ b) (k : W1.grownBy W2 gb) : W.grownBy W2 row :=
  ⟨k.os.trans h.os, k.tape.trans h.tape, k.output.trans h.output, Nat.le_trans h.size k.size, fun j hj hne => (k.block j (Nat.lt_of_lt_of_le hj h.size) (fun e => by
    rcases hb j e.symm with e1 | e1
    · exact hne e1
    · omega)).trans (h.block j hj hne)⟩
/-- What stands at the p-th turn of the second loop. -/
structure In2 (w W : World) (base N0 n : Nat) (va : Value) (fl : List Value) (vg : Value) (hl : List Value) (p : Nat) : Prop where
  fm : Fm W base va fl (fun j => w9 j n)
  gr : W.ownsRow N0 31 1 vg p hl
  hs : ∀ j, j < p → OwT W base (fv_ hl j) (w9 j n ++ [mk7 j])
  hb : ∀ j, j < p → ∀ b, (fv_ hl j).ownBlock = some b → some b = (fv_ fl j).ownBlock ∨ N0 ≤ b
  low : Below base w W
  sz : N0 ≤ W.heap.size
  vb : ∀ b, va.ownBlock = some b → b < N0
theorem fv_snoc (hl : List Value) (x : Value) (j : Nat) : fv_ (hl ++ [x]) j = if j < hl.length then fv_ hl j else if j = hl.length then x else .slice none 0 0 := by
  unfold fv_
  rw [List.getD_eq_getElem?_getD, List.getD_eq_getElem?_getD]
  by_cases h : j < hl.length
  · rw [if_pos h, List.getElem?_append_left h]
  · rw [if_neg h, List.getElem?_append_right (by omega)]
    by_cases e : j = hl.length
    · rw [if_pos e, e, Nat.sub_self]
      rfl
    · rw [if_neg e, List.getElem?_eq_none (by simp; omega)]
      rfl
/-- A turn: what touches the p-th list's block alone, and then the list of what has grown. -/
theorem In2.turn {w W W1 W2 : World} {base N0 n p : Nat} {va vg vg' h : Value} {fl hl : List Value} (I : In2 w W base N0 n va fl vg hl p) (hp : p < 18) (hbase : base ≤ w.heap.size) (hNb : base ≤ N0)
    (fb : ∀ j, j < 18 → ∀ b, (fv_ fl j).ownBlock = some b → b < N0)
    (hg : W.grownBy W1 (fv_ fl p).ownBlock) (hf : OwT W1 base (fv_ fl p) (w9 p n)) (hh : OwT W1 base h (w9 p n ++ [mk7 p])) (hhb : ∀ b, h.ownBlock = some b → some b = (fv_ fl p).ownBlock ∨ N0 ≤ b)
    (hg2 : W1.grownBy W2 vg.ownBlock) (hr2 : W2.ownsRow N0 31 1 vg' (p + 1) (hl ++ [h])) : In2 w W2 base N0 n va fl vg' (hl ++ [h]) (p + 1) := by
  have hlen : hl.length = p := by have := I.gr.1; simpa using this
  have F1 := I.fm.grown hp hg _ hf
  have e1 : (fun j => if j = p then w9 p n else w9 j n) = fun j => w9 j n := by
    funext j
    split
    · rename_i e; rw [e]
    · rfl
  rw [e1] at F1
  have gr1 : W1.ownsRow N0 31 1 vg p hl := I.gr.kept hg (row_ne I.gr (I.fm.own p hp) (by decide))
  have hs1 : ∀ j, j < p → OwT W1 base (fv_ hl j) (w9 j n ++ [mk7 j]) := fun j hj => World.ownsRow.kept (I.hs j hj) hg (by
    cases e : (fv_ hl j).ownBlock with
    | none => exact .inl rfl
    | some b =>
      right
      intro e2
      rcases I.hb j hj b e with e3 | e3
      · rcases I.fm.sep j p (by omega) hp (by omega) with e4 | e4
        · rw [e4] at e3; cases e3
        · exact e4 (e3.symm.trans e2)
      · have := fb p hp b e2.symm
        omega)
  have ne43 : ∀ (v : Value) (l : List Ty2), OwT W1 base v l → v.ownBlock = none ∨ v.ownBlock ≠ vg.ownBlock := fun v l ho => row_ne ho gr1 (by decide)
  refine ⟨⟨F1.all.kept hg2 ?_, fun j hj => World.ownsRow.kept (F1.own j hj) hg2 (ne43 _ _ (F1.own j hj)), F1.sep⟩, hr2, ?_, ?_, (I.low.trans (grown_below hg (Nat.le_trans hNb I.sz) (fun k e => (row_lt (I.fm.own p hp) e).1))).trans (grown_below hg2 (by have := hg.size; have := I.sz; omega) (fun k e => by have := (row_lt gr1 e).1; omega)), by have := hg.size; have := hg2.size; have := I.sz; omega, I.vb⟩
  · cases e : va.ownBlock with
    | none => exact .inl rfl
    | some b =>
      right
      intro e2
      have h1 := (row_lt gr1 e2.symm).1
      have h2 := I.vb b e
      omega
  · intro j hj
    rw [fv_snoc, hlen]
    by_cases hjp : j < p
    · rw [if_pos hjp]
      exact World.ownsRow.kept (hs1 j hjp) hg2 (ne43 _ _ (hs1 j hjp))
    · have : j = p := by omega
      rw [if_neg hjp, if_pos this, this]
      exact World.ownsRow.kept hh hg2 (ne43 _ _ hh)
  · intro j hj b
    rw [fv_snoc, hlen]
    by_cases hjp : j < p
    · rw [if_pos hjp]
      exact I.hb j hjp b
    · have : j = p := by omega
      rw [if_neg hjp, if_pos this, this]
      exact hhb b
theorem row_cells {W : World} {b n : Nat} {e : TypeId} {v : Value} {xs : List Value} (h : W.ownsRow b e 1 v n xs) (hn : 0 < n) : ∃ g cp, v = .slice (some ⟨g, 0, none⟩) n cp ∧ ∀ j, j < n → W.cell? ⟨g, j, none⟩ = some (fv_ xs j) := by
  rcases h.2 with ⟨_, e0⟩ | ⟨g, cap, cur, rfl, hb, hg, h3, h4, h5, h6⟩
  · omega
  · refine ⟨g, cap, rfl, fun j hj => ?_⟩
    rw [cell_of_row W g j _ _ _ hg]
    have hl : xs.length = n := by have := h.1; simpa using this
    have hx : xs[j]? = some (fv_ xs j) := by
      unfold fv_
      rw [List.getD_eq_getElem?_getD, List.getElem?_eq_getElem (by omega)]
      rfl
    have h6' : (cur.toList.take n) = xs := by rw [Nat.mul_one] at h6; exact h6
    have hy : (cur.toList.take n)[j]? = some (fv_ xs j) := by rw [h6']; exact hx
    rw [List.getElem?_take_of_lt (by omega)] at hy
    simpa using hy
theorem cells_of {W : World} {base g cap n q : Nat} {l : List Ty2} (h : OwT W base (.slice (some ⟨g, 0, none⟩) n cap) l) (hl : l.length = n) (hq : q < n) :
    (∃ v, W.cell? ⟨g, q * 2, none⟩ = some v ∧ W.frozen? ⟨g, q * 2, none⟩ = false) ∧ (∃ v, W.cell? ⟨g, q * 2 + 1, none⟩ = some v ∧ W.frozen? ⟨g, q * 2 + 1, none⟩ = false) := by
  rcases h.2 with ⟨e, _⟩ | ⟨g', cap', cur, e, hb, hg, h3, h4, h5, h6⟩
  · cases e
  · cases e
    have one : ∀ j, j < 2 → ∃ v, W.cell? ⟨g, q * 2 + j, none⟩ = some v ∧ W.frozen? ⟨g, q * 2 + j, none⟩ = false := by
      intro j hj
      have hz : q * 2 + j < cur.size := by omega
      refine ⟨cur[q * 2 + j], ?_, ?_⟩
      · rw [cell_of_row W g (q * 2 + j) _ _ _ hg, Array.getElem?_eq_getElem hz]
      · simp [World.frozen?, hg]
    exact ⟨one 0 (by decide), one 1 (by decide)⟩
set_option maxHeartbeats 8000000 in
set_option maxRecDepth 100000 in
theorem apart_any (va : Value) (fl : List Value) (T : List Ty2) (base : Nat) (w : World) (h : Fm w base va fl (fun _ => T)) (hbase : base ≤ w.heap.size) (hT : T.length ≤ 1000) :
    Calls Tryz.prog 20 #[va] w fun e w' => e = .returned (.bool true) ∧ Below base w w' := by
  obtain ⟨A, cp, rfl, hA, hbA, hcell⟩ := h.cell
  have F0 := hid (show Fm w base (.slice (some ⟨A, 0, none⟩) 18 cp) fl (M1 T 0 0) by rw [M1_beg]; exact h)
  have HT := hid hT
  obtain ⟨n, hn⟩ : ∃ n, n = T.length := ⟨_, rfl⟩
  rw [← hn] at hT
  have HN := hid hn
  clear h hcell hn
  go_enter Tryz.func20, Tryz.ntmps20
  go_wp2_with fail
  go_loopw [16] (fun i wr => ∃ k : Nat, k ≤ 18 ∧ i = .int .i64 k ∧ Hid (Fm wr base (.slice (some ⟨A, 0, none⟩) 18 cp) fl (M1 T k 0)) ∧ Hid (Below base w wr) ∧ Hid (wr.heap.size = w.heap.size)) (fun i _ => 18 - (intOf i).toNat)
  case atStart => exact ⟨0, by omega, rfl, F0, hid (Below.refl _ _), hid rfl⟩
  case round =>
    obtain ⟨k, hk, rfl, FM, HB, HZ⟩ := hrel
    clear F0
    by_cases hlt : k < 18
    · obtain ⟨A', cp', e1, hA', hbA', hc⟩ := FM.out.cell
      cases e1
      have c0 := hc k hlt
      clear hc
      have hO := FM.out.own k hlt
      rw [M1_at, mix_zero] at hO
      obtain ⟨ga, gc, hf, hg⟩ := fv_form hO
      rw [← HN.out] at hf hg
      rw [hf] at c0
      have HF := hid hf
      have HGG := hid hg
      have g1 : (k : Int) < 18 := by omega
      clear hO hg hf
      go_wp2_with fail
      clear c0
      go_loopw [23] (fun i wr => ∃ q : Nat, q ≤ n ∧ i = .int .i64 q ∧ Hid (Fm wr base (.slice (some ⟨A, 0, none⟩) 18 cp) fl (M1 T k q)) ∧ Hid (Below base w wr) ∧ Hid (wr.heap.size = w.heap.size)) (fun i _ => n - (intOf i).toNat)
      case atStart => exact ⟨0, Nat.zero_le _, rfl, FM, HB, HZ⟩
      case round =>
        clear FM HB HZ
        obtain ⟨q, hq, rfl, FM, HB, HZ⟩ := hrel
        by_cases hql : q < n
        · obtain ⟨g, e2, _⟩ := HGG.out (by omega)
          cases e2
          have hO := FM.out.own k hlt
          rw [M1_at] at hO
          have hlen : (mix T k q).length = n := by rw [mix_len T k q (by rw [← HN.out]; exact hq), ← HN.out]
          rw [HF.out] at hO
          have hgb := row_lt hO rfl
          have HO := hid hO
          clear hO
          have cells := cells_of HO.out hlen hql
          have g1 : (q : Int) < (n : Int) := by omega
          have g2 : (0 : Int) ≤ (q : Int) := by omega
          obtain ⟨⟨x0, y0, z0⟩, ⟨x1, y1, z1⟩⟩ := cells
          go_wp2_with fail
          have hz := HB.out.size
          have hgr : wr.grownBy (putT wr g (q * 2) (mk9 k q)) (fv_ fl k).ownBlock := by rw [HF.out]; exact putT_grown wr g (q * 2) (mk9 k q)
          have hown : OwT (putT wr g (q * 2) (mk9 k q)) base (fv_ fl k) (mix T k (q + 1)) := by
            have h1 := HO.out
            rw [← hlen] at h1
            have := OwT.put (mk9 k q) h1 (by rw [hlen]; exact hql)
            rw [mix_set T k q (by rw [← HN.out]; exact hql), hlen] at this
            rw [HF.out]
            exact this
          have F2 := FM.out.grown hlt hgr _ hown
          rw [M1_step] at F2
          refine ⟨⟨q + 1, by omega, by go_num, F2, HB.out.trans (grown_below (putT_grown wr g (q * 2) (mk9 k q)) (by omega) (fun k e => by cases e; exact hgb.1)), ?_⟩, ?_⟩
          · have := HZ.out
            show (putT wr g (q * 2) (mk9 k q)).heap.size = w.heap.size
            rw [← this]
            simp [putT]
          · simp [intOf]
            omega
        · have e : q = n := by omega
          have F2 := FM.out
          rw [e, HN.out, M1_next] at F2
          go_wp2_with fail
          exact ⟨⟨k + 1, by omega, by go_num, F2, HB, HZ⟩, by simp [intOf]; omega⟩
    · have hk18 : k = 18 := by omega
      rw [hk18] at FM
      have hkd : decide ((k : Int) < 18) = false := by simp; omega
      clear hk18
      have FM0 := hid (show Fm wr base (.slice (some ⟨A, 0, none⟩) 18 cp) fl (fun j => w9 j T.length) from ⟨FM.out.all, fun j hj => by have := FM.out.own j hj; rw [M1_end T j hj] at this; exact this, FM.out.sep⟩)
      clear FM
      obtain ⟨i0, hi0, hz0, hz1, hz2⟩ := info_parts infoTy
      obtain ⟨i1, hi1, hy0, hy1, hy2⟩ := info_parts infoS
      have HFB := hid (show ∀ j, j < 18 → ∀ b, (fv_ fl j).ownBlock = some b → b < w.heap.size from fun j hj b e => by have := (row_lt (FM0.out.own j hj) e).2; rw [HZ.out] at this; exact this)
      have I0 := hid (show In2 w wr base w.heap.size n (.slice (some ⟨A, 0, none⟩) 18 cp) fl (.slice none 0 0) [] 0 from ⟨by rw [HN.out]; exact FM0.out, World.ownsRow_nil _ _ _ _, fun j hj => absurd hj (by omega), fun j hj => absurd hj (by omega), HB.out, by rw [HZ.out]; exact Nat.le_refl _, fun b e => by cases e; exact hA⟩)
      clear FM0 HB HZ
      go_wp2_with fail
      go_loopw [6, 37] (fun vg i wr => ∃ (p : Nat) (hl : List Value), p ≤ 18 ∧ i = .int .i64 p ∧ Hid (In2 w wr base w.heap.size n (.slice (some ⟨A, 0, none⟩) 18 cp) fl vg hl p)) (fun _ i _ => 18 - (intOf i).toNat)
      case atStart => exact ⟨0, [], by omega, rfl, I0⟩
      case round =>
        clear I0
        obtain ⟨p, hl, hp, rfl, IV⟩ := hrel
        by_cases hlp : p < 18
        · obtain ⟨A', cp', e1, hA', hbA', hc⟩ := IV.out.fm.cell
          cases e1
          have c0 := hc p hlp
          clear hc
          have hO := IV.out.fm.own p hlp
          obtain ⟨ga, gc, hf, _⟩ := fv_form hO
          rw [w9_len] at hf
          have HF := hid hf
          rw [hf] at c0
          have g1 : (p : Int) < 18 := by omega
          have HO0 := hid hO
          clear hO hf
          go_wp2_with fail
          clear c0
          obtain ⟨wB, hwB⟩ : ∃ wB, wB = wr := ⟨_, rfl⟩
          have O0 := hid (show OwT wr base (.slice ga n gc) (w9 p n ++ w8 p 0) by
            have := HO0.out
            rw [HF.out] at this
            rw [show w8 p 0 = [] from rfl, List.append_nil]
            exact this)
          have HWB := hid hwB
          have GB0 := hid (show wB.grownBy wr (fv_ fl p).ownBlock by rw [hwB]; exact grown_refl _ _)
          rw [← hwB] at IV
          have B0 := hid (show ∀ b, (Value.slice ga n gc).ownBlock = some b → some b = (fv_ fl p).ownBlock ∨ wB.heap.size ≤ b from fun b e => .inl (by rw [HF.out]; exact e.symm))
          clear hwB
          go_loopw [9, 10] (fun gv i wr => ∃ q : Nat, q ≤ 64 ∧ i = .int .i64 q ∧ Hid (OwT wr base gv (w9 p n ++ w8 p q)) ∧ Hid (OwT wr base (fv_ fl p) (w9 p n)) ∧ Hid (wB.grownBy wr (fv_ fl p).ownBlock) ∧ Hid (∀ b, gv.ownBlock = some b → some b = (fv_ fl p).ownBlock ∨ wB.heap.size ≤ b)) (fun _ i _ => 64 - (intOf i).toNat)
          case atStart => exact ⟨0, by omega, rfl, O0, HO0, GB0, B0⟩
          case round =>
            clear O0 HO0 GB0 B0 HWB
            obtain ⟨q, hq, rfl, O1, HO, GB, BB⟩ := hrel
            have hzB := GB.out.size
            have hsz0 := IV.out.sz
            by_cases hql : q < 64
            · obtain ⟨va', vc', rfl⟩ := OwT.form O1.out
              have hlen : (w9 p n ++ w8 p q).length = n + q := by rw [List.length_append, w9_len, w8_len]
              rw [hlen] at O1 BB ⊢
              have O1' := hid (show wr.ownsRow base 47 2 (.slice va' (n + q) vc') (n + q) (cellsT2 (w9 p n ++ w8 p q)) by have := O1.out; unfold OwT at this; rw [hlen] at this; exact this)
              go_wp2_with (at_builtin; refine Ap.wpList_append_stays _ rfl _ _ 31 rfl base 47 i0 (.agg #[.int .i64 0, .int .i64 0]) 2 16 Tryz.underlying31 hi0 hz0 hz1 hz2 rfl (by decide) _ _ _ rfl (World.ownsRow.alloc O1'.out _) ⟨wr.heap.size, 0, none⟩ 1 1 [.int .i64 91, .int .i64 0] rfl rfl (cell_two_newT _ _ _ _) (fun x hx => by simp at hx; rcases hx with rfl | rfl <;> rfl) (by unfold maxLen; omega) (by omega) (by simp; omega) (by decide) ?_)
              intro v' w3 hown' hgrow hst hblk
              have O3 := hid (show OwT w3 base v' (w9 p n ++ w8 p (q + 1)) by
                rw [w8_succ, ← List.append_assoc]
                unfold OwT
                rw [cT_app, List.length_append, hlen]
                exact hown')
              have F3 := hid (show OwT w3 base (fv_ fl p) (w9 p n) from hst _ _ _ _ (World.ownsRow.alloc HO.out _) (.inl (by rw [w9_len]; omega)))
              have G3 := hid (grown_on GB.out BB.out (grown_alloc hgrow))
              have B3 := hid (show ∀ b, v'.ownBlock = some b → some b = (fv_ fl p).ownBlock ∨ wB.heap.size ≤ b from fun b e => by
                rcases hblk with e1 | e1
                · exact BB.out b (by rw [← e1]; exact e)
                · rw [e1] at e
                  have e2 := Option.some.inj e
                  right
                  rw [← e2]
                  omega)
              obtain ⟨va3, vc3, rfl⟩ := OwT.form O3.out
              clear hown' hgrow hst hblk
              go_wp2_with fail
              exact ⟨⟨q + 1, by omega, by go_num, O3, F3, G3, B3⟩, by simp [intOf]; omega⟩
            · have hgl : hl.length = p := by have := IV.out.gr.1; simpa using this
              have F1' := hid (show wr.ownsRow base 47 2 (.slice ga n gc) n (cellsT2 (w9 p n)) by have := HO.out; unfold OwT at this; rw [HF.out, w9_len] at this; exact this)
              have IGR := hid (show wr.ownsRow w.heap.size 31 1 _ p hl from IV.out.gr.kept GB.out (row_ne IV.out.gr (IV.out.fm.own p hlp) (by decide)))
              go_wp2_with (at_builtin; refine Ap.wpList_append_stays _ rfl _ _ 31 rfl base 47 i0 (.agg #[.int .i64 0, .int .i64 0]) 2 16 Tryz.underlying31 hi0 hz0 hz1 hz2 rfl (by decide) _ _ _ rfl (World.ownsRow.alloc F1'.out _) ⟨wr.heap.size, 0, none⟩ 1 1 [.int .i64 (200 + (p : Int)), .int .i64 0] rfl rfl (cell_two_newT _ _ _ _) (fun x hx => by simp at hx; rcases hx with rfl | rfl <;> rfl) (by unfold maxLen; omega) (by omega) (by simp; omega) (by decide) ?_)
              intro h w3 hown' hgrow hst hblk
              have O3 := hid (show OwT w3 base h (w9 p n ++ [mk7 p]) by
                unfold OwT
                rw [cT_app, List.length_append, w9_len]
                exact hown')
              have F3 := hid (show OwT w3 base (fv_ fl p) (w9 p n) from hst _ _ _ _ (World.ownsRow.alloc HO.out _) (.inl (by rw [w9_len]; exact Nat.le_refl _)))
              have G3 := hid (show wB.grownBy w3 (fv_ fl p).ownBlock from grown_on GB.out (fun b e => .inl e.symm) (by rw [HF.out]; exact grown_alloc hgrow))
              have B3 := hid (show ∀ b, h.ownBlock = some b → some b = (fv_ fl p).ownBlock ∨ w.heap.size ≤ b from fun b e => by
                rcases hblk with e1 | e1
                · left
                  rw [HF.out, ← e1]
                  exact e.symm
                · rw [e1] at e
                  have e2 := Option.some.inj e
                  right
                  rw [← e2]
                  omega)
              have IG3 := hid (show w3.ownsRow w.heap.size 31 1 _ p hl from IV.out.gr.kept G3.out (row_ne IV.out.gr (IV.out.fm.own p hlp) (by decide)))
              have hz3 := G3.out.size
              obtain ⟨va3, vc3, rfl⟩ := OwT.form O3.out
              have hl7 : (w9 p n ++ [mk7 p]).length = n + 1 := by rw [List.length_append, w9_len]; rfl
              rw [hl7] at O3 B3 ⊢
              obtain ⟨vga, vgc, hvg⟩ : ∃ a c, u6 = .slice a p c := by
                rcases IG3.out.2 with ⟨e, e0⟩ | ⟨g, cap, cur, e, _⟩
                · exact ⟨none, 0, by rw [e, e0]⟩
                · exact ⟨_, _, e⟩
              subst hvg
              clear hown' hgrow hst hblk HO O1 BB IGR
              go_wp2_with (at_builtin; refine wpList_append_own _ rfl _ _ 64 rfl w.heap.size 31 i1 (.slice none 0 0) 1 24 Tryz.underlying64 hi1 hy0 hy1 hy2 rfl (by decide) _ _ _ rfl (World.ownsRow.alloc IG3.out _) ⟨w3.heap.size, 0, none⟩ 1 1 [.slice va3 (n + 1) vc3] rfl rfl (Ap.one_at _ _ _) (fun x hx => by simp at hx; subst hx; rfl) (by unfold maxLen; omega) (by omega) (by simp; omega) ?_)
              intro vg' w4 hown4 hgrow4 _
              have I4 := hid (IV.out.turn hlp hbase hbase HFB.out G3.out F3.out O3.out B3.out (grown_alloc hgrow4) hown4)
              obtain ⟨a4, c4, hv4⟩ : ∃ a c, vg' = .slice a (p + 1) c := by
                rcases hown4.2 with ⟨e, e0⟩ | ⟨g, cap, cur, e, _⟩
                · cases e0
                · exact ⟨_, _, e⟩
              subst hv4
              clear hown4 hgrow4
              go_wp2_with fail
              exact ⟨⟨p + 1, hl ++ [_], by omega, by go_num, I4⟩, by simp [intOf]; omega⟩
        · have hp18 : p = 18 := by omega
          have I18 := IV.out
          rw [hp18] at I18
          have HI := hid I18
          have hpd : decide ((p : Int) < 18) = false := by simp; omega
          clear IV I18 hp18
          obtain ⟨gb, gcp, hvg, hgc⟩ := row_cells HI.out.gr (by omega)
          subst hvg
          obtain ⟨A', cp', e1, hA', hbA', hc⟩ := HI.out.fm.cell
          cases e1
          have HC := hid hc
          have HGC := hid hgc
          clear hc hgc
          go_wp2_with fail
          go_loop [63] (fun i => ∃ r : Nat, r ≤ 18 ∧ i = .int .i64 r) (fun i => 18 - (intOf i).toNat)
          case atStart => exact ⟨0, by omega, rfl⟩
          case round =>
            obtain ⟨r, hr, rfl⟩ := hrel
            by_cases hrl : r < 18
            · have c0 := HC.out r hrl
              have c1 := HGC.out r hrl
              obtain ⟨fa, fc, hf, hfx⟩ := OwT.lst (HI.out.fm.own r hrl)
              rw [w9_len] at hf hfx
              obtain ⟨ha, hcp, hh, hhx⟩ := OwT.lst (HI.out.hs r hrl)
              have hl7 : (w9 r n ++ [mk7 r]).length = n + 1 := by rw [List.length_append, w9_len]; rfl
              rw [hl7] at hh hhx
              rw [hf] at c0
              rw [hh] at c1
              rcases hhx with h0 | ⟨hb, rfl, hbl, hbc⟩
              · cases h0
              have hq := hbc n (by omega)
              have e7 : tk (w9 r n ++ [mk7 r]) n = mk7 r := by
                unfold tk
                rw [List.getD_eq_getElem?_getD, List.getElem?_append_right (by rw [w9_len]; exact Nat.le_refl _), w9_len, Nat.sub_self]
                rfl
              rw [e7] at hq
              have HQ7 := hid hq
              have HFX := hid hfx
              have g1 : (r : Int) < 18 := by omega
              clear hq hfx hbc hf hh
              go_wp2_with fail
              go_loop [70] (fun i => ∃ q : Nat, q ≤ n ∧ i = .int .i64 q) (fun i => n - (intOf i).toNat)
              case atStart => exact ⟨0, Nat.zero_le _, rfl⟩
              case round =>
                obtain ⟨q, hq, rfl⟩ := hrel
                by_cases hql : q < n
                · rcases HFX.out with h0 | ⟨fb, rfl, hfl, hfc⟩
                  · omega
                  have hq5 := hfc q hql
                  rw [w9_get r n q hql] at hq5
                  obtain ⟨p0, p1⟩ := hq5
                  have p0' : wr.cell? ⟨fb, q * 2, none⟩ = some (.int .i64 (100 + (r : Int))) := p0
                  have p1' : wr.cell? ⟨fb, q * 2 + 1, none⟩ = some (.int .i64 q) := p1
                  clear p0 p1 hfc
                  have g2 : (q : Int) < (n : Int) := by omega
                  have g3 : (0 : Int) ≤ (q : Int) := by omega
                  go_wp2_with fail
                  exact ⟨⟨q + 1, by omega, by go_num⟩, by simp [intOf]; omega⟩
                · have hqn : q = n := by omega
                  obtain ⟨p0, p1⟩ := HQ7.out
                  have p0' : wr.cell? ⟨hb, n * 2, none⟩ = some (.int .i64 (200 + (r : Int))) := p0
                  have p1' : wr.cell? ⟨hb, n * 2 + 1, none⟩ = some (.int .i64 0) := p1
                  clear p0 p1
                  go_wp2_with fail
                  exact ⟨⟨r + 1, by omega, by go_num⟩, by simp [intOf]; omega⟩
            · go_wp2_with fail
              go_ret
              exact ⟨rfl, HI.out.low⟩
end Go.Proofs.YtiddnjjaidiohaaGreatDoor.L.Kp
