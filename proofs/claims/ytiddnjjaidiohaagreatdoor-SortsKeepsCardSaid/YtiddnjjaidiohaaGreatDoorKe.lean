import Derived.Test.YtiddnjjaidiohaaGreatDoorMgBC
namespace Go.Proofs.YtiddnjjaidiohaaGreatDoor.L.Kp
open Go.RowKit Go.Shelf
set_option linter.unusedVariables false
/-- What stands while the parts are given kids with room: k are done. -/
structure Kro (X W : World) (base gr k n mc : Nat) (a' : Option Addr) (T : List Pt) (ks : Nat → Value) (xs : List Value) : Prop where
  but : But2 (Value.ownBlock (.slice a' n mc)) (some gr) X W
  mine : OwnP W base (.slice a' n mc) T ks n
  room : W.ownsRow base 58 1 (.slice (some ⟨gr, 0, none⟩) n n) n xs
  rows : ∀ j, j < k → OwnI W base (fv_ xs j) ((pt T j).kids ++ mks)
  cut : ∀ j, j < k → ks j = cutV (fv_ xs j) (pt T j).kids.length
theorem Kro.next {X W W' : World} {base gr k n mc gp : Nat} {T : List Pt} {ks : Nat → Value} {xs : List Value} {rv : Value} (h : Kro X W base gr k n mc (some ⟨gp, 0, none⟩) T ks xs) (hk : k < n) (hb : But2 (some gp) (some gr) W W')
    (hM : OwnP W' base (.slice (some ⟨gp, 0, none⟩) n mc) T (fun j => if j = k then cutV rv (pt T k).kids.length else ks j) n) (hR : W'.ownsRow base 58 1 (.slice (some ⟨gr, 0, none⟩) n n) n (xs.set k rv)) (ho : OwnI W' base rv ((pt T k).kids ++ mks)) :
    Kro X W' base gr (k + 1) n mc (some ⟨gp, 0, none⟩) T (fun j => if j = k then cutV rv (pt T k).kids.length else ks j) (xs.set k rv) := by
  have hxl : xs.length = n := by have := h.room.1; simpa using this
  refine ⟨h.but.trans hb, hM, hR, fun j hj => ?_, fun j hj => ?_⟩
  · rw [fv_set xs k j rv (by omega)]
    by_cases e : j = k
    · rw [if_pos e, e]; exact ho
    · rw [if_neg e]
      have hr := h.rows j (by omega)
      exact hb.row hr (row_ne hr h.mine.row (by decide)) (row_ne hr h.room (by decide))
  · rw [fv_set xs k j rv (by omega)]
    by_cases e : j = k
    · simp only [if_pos e]
      rw [e]
    · simp only [if_neg e]
      exact h.cut j (by omega)
/-- All that stands behind that loop. -/
structure Kst (w W : World) (base tb fb mb gr : Nat) (a a' : Option Addr) (n cap mc : Nat) (fc fi fz : Int) (T : List Pt) (ks : Nat → Value) (xs : List Value) : Prop where
  low : Below w.heap.size w W
  bse : w.heap.size ≤ base
  tbx : W.heap[tb]? = some (.cells #[.slice a n cap] 26 (0, 0))
  fbx : W.heap[fb]? = some (.cells #[.int .i64 fc, .int .i64 fi, .int .i64 fz] 33 (0, 0))
  mbx : W.heap[mb]? = some (.cells #[.slice a' n mc] 26 (0, 0))
  src : PLs w a T
  mine : OwnP W base (.slice a' n mc) T ks n
  room : W.ownsRow base 58 1 (.slice (some ⟨gr, 0, none⟩) n n) n xs
  rows : ∀ j, j < n → OwnI W base (fv_ xs j) ((pt T j).kids ++ mks)
  cut : ∀ j, j < n → ks j = cutV (fv_ xs j) (pt T j).kids.length
  len : n = T.length
theorem Kst.below {w W W' : World} {base tb fb mb gr : Nat} {a a' : Option Addr} {n cap mc : Nat} {fc fi fz : Int} {T : List Pt} {ks : Nat → Value} {xs : List Value} (h : Kst w W base tb fb mb gr a a' n cap mc fc fi fz T ks xs) (hb : Below W.heap.size W W') : Kst w W' base tb fb mb gr a a' n cap mc fc fi fz T ks xs :=
  ⟨bchS h.low hb, h.bse, (hb.block _ (lt_blk h.tbx)).trans h.tbx, (hb.block _ (lt_blk h.fbx)).trans h.fbx, (hb.block _ (lt_blk h.mbx)).trans h.mbx, h.src, h.mine.low hb, row_low h.room hb, fun j hj => own_low (h.rows j hj) hb, h.cut, h.len⟩
theorem Kst.pls {w W : World} {base tb fb mb gr : Nat} {a a' : Option Addr} {n cap mc : Nat} {fc fi fz : Int} {T : List Pt} {ks : Nat → Value} {xs : List Value} (h : Kst w W base tb fb mb gr a a' n cap mc fc fi fz T ks xs) : PLs W a' T := by
  have h1 := h.mine
  rw [h.len] at h1
  obtain ⟨a1, c1, e, hp⟩ := h1.pl
  cases e
  exact hp
/-- One part of the tree that was handed in, of the copy, and its room. -/
structure Lok (Y : World) (b2 o2 gp gr rb rc kc j : Nat) (ka : Option Addr) (p : Pt) : Prop where
  p0 : Y.cell? ⟨b2, o2 + j * 4, none⟩ = some (.int .i64 p.kind)
  p1 : Y.cell? ⟨b2, o2 + j * 4 + 1, none⟩ = some (.string p.text)
  p2 : Y.cell? ⟨b2, o2 + j * 4 + 2, none⟩ = some (.int .i64 p.num)
  p3 : Y.cell? ⟨b2, o2 + j * 4 + 3, none⟩ = some (.slice ka p.kids.length kc)
  rk : RdI Y ka p.kids
  q0 : Y.cell? ⟨gp, j * 4, none⟩ = some (.int .i64 p.kind)
  q1 : Y.cell? ⟨gp, j * 4 + 1, none⟩ = some (.string p.text)
  q2 : Y.cell? ⟨gp, j * 4 + 2, none⟩ = some (.int .i64 p.num)
  q3 : Y.cell? ⟨gp, j * 4 + 3, none⟩ = some (.slice (some ⟨rb, 0, none⟩) p.kids.length rc)
  r0 : Y.cell? ⟨gr, j, none⟩ = some (.slice (some ⟨rb, 0, none⟩) (p.kids.length + 3) rc)
  rr : ∀ i, i < p.kids.length → Y.cell? ⟨rb, i, none⟩ = some (.int .i64 (p.kids.getD i 0))
  s0 : Y.cell? ⟨rb, p.kids.length, none⟩ = some (.int .i64 (-91))
  s1 : Y.cell? ⟨rb, p.kids.length + 1, none⟩ = some (.int .i64 (-92))
  s2 : Y.cell? ⟨rb, p.kids.length + 2, none⟩ = some (.int .i64 (-93))
theorem mk_at (zs : List Int) (j : Nat) (hj : j < 3) : ((zs ++ mks).map (Value.int .i64))[zs.length + j]? = some (.int .i64 (mks.getD j 0)) := by
  rw [List.getElem?_map, List.getElem?_append_right (by omega)]
  have : zs.length + j - zs.length = j := by omega
  rw [this]
  match j, hj with
  | 0, _ => rfl
  | 1, _ => rfl
  | 2, _ => rfl
theorem Kst.look {w W : World} {base tb fb mb gr : Nat} {a a' : Option Addr} {n cap mc : Nat} {fc fi fz : Int} {T : List Pt} {ks : Nat → Value} {xs : List Value} (h : Kst w W base tb fb mb gr a a' n cap mc fc fi fz T ks xs) (j : Nat) (hj : j < n) :
    ∃ b2 o2 gp rb rc kc ka, a = some ⟨b2, o2, none⟩ ∧ a' = some ⟨gp, 0, none⟩ ∧ ∀ Y, Below W.heap.size W Y → Lok Y b2 o2 gp gr rb rc kc j ka (pt T j) := by
  have hs := h.src.low h.low
  rcases hs with h0 | ⟨b2, o2, ea, hb2, hc⟩
  · have := h.len; omega
  obtain ⟨ka, kc, c0, c1, c2, c3, rk, hno⟩ := hc j (by rw [← h.len]; exact hj)
  have hr := h.rows j hj
  have hle : ((pt T j).kids ++ mks).length = (pt T j).kids.length + 3 := by rw [List.length_append]; rfl
  obtain ⟨rb, rc, hv⟩ : ∃ rb rc, fv_ xs j = .slice (some ⟨rb, 0, none⟩) ((pt T j).kids.length + 3) rc := by
    rcases hr.2 with ⟨_, e0⟩ | ⟨g, cap, cur, e, _⟩
    · rw [hle] at e0; omega
    · exact ⟨g, cap, by rw [e, hle]⟩
  obtain ⟨gp, ea'⟩ : ∃ gp, a' = some ⟨gp, 0, none⟩ := by
    rcases h.mine.row.2 with ⟨_, e0⟩ | ⟨g, cap, cur, e, _⟩
    · omega
    · cases e; exact ⟨g, rfl⟩
  have hk := h.cut j hj
  rw [hv] at hk
  simp only [cutV] at hk
  subst ea'
  have hgp := (row_lt h.mine.row rfl).2
  have hgr := (row_lt h.room rfl).2
  have q : ∀ r, r < 4 → W.cell? ⟨gp, j * 4 + r, none⟩ = [Value.int .i64 (pt T j).kind, .string (pt T j).text, .int .i64 (pt T j).num, ks j][r]? := fun r hr4 => by
    rw [row_cell h.mine.row _ (by omega), CP_get T ks j r hr4 hj]
  have hxl : j < xs.length := by have h1 := h.room.1; rw [Nat.mul_one] at h1; omega
  have r0 : W.cell? ⟨gr, j, none⟩ = some (fv_ xs j) := by
    rw [row_cell h.room j (by omega)]
    unfold fv_
    rw [List.getD_eq_getElem?_getD, List.getElem?_eq_getElem hxl]
    rfl
  rw [hv] at r0 hr
  have hr2 : W.ownsRow base 3 1 (.slice (some ⟨rb, 0, none⟩) ((pt T j).kids.length + 3) rc) ((pt T j).kids.length + 3) (((pt T j).kids ++ mks).map (Value.int .i64)) := by
    have h1 := hr
    unfold OwnI at h1
    rwa [hle] at h1
  have hrb := (row_lt hr2 rfl).2
  have q3 := q 3 (by decide)
  rw [hk] at q3
  refine ⟨b2, o2, gp, rb, rc, kc, ka, ea, rfl, fun Y hb => ?_⟩
  have up : ∀ {g i : Nat} {v : Value}, g < W.heap.size → W.cell? ⟨g, i, none⟩ = some v → Y.cell? ⟨g, i, none⟩ = some v := fun hg hc => (hb.cell (p := ⟨_, _, none⟩) hg).trans hc
  refine ⟨up hb2 c0, up hb2 c1, up hb2 c2, up hb2 c3, rk.low hb (Nat.le_refl _), up hgp (q 0 (by decide)), up hgp (q 1 (by decide)), up hgp (q 2 (by decide)), up hgp q3, up hgr r0, fun i hi => up hrb ?_, up hrb ?_, up hrb ?_, up hrb ?_⟩
  · rw [row_cell hr2 i (by omega), List.getElem?_map, List.getElem?_append_left hi, List.getElem?_eq_getElem hi, List.getD_eq_getElem?_getD, List.getElem?_eq_getElem hi]
    rfl
  · rw [row_cell hr2 _ (by omega)]
    exact mk_at _ 0 (by decide)
  · rw [row_cell hr2 _ (by omega)]
    exact mk_at _ 1 (by decide)
  · rw [row_cell hr2 _ (by omega)]
    exact mk_at _ 2 (by decide)
/-- The types that Check answers, as one list. -/
theorem types_one (T : List Pt) (sc : Int) : ∃ TT : List Ty2, TT.length ≤ 1000 ∧ (∀ B W v ev, CkR T sc B W v ev → OwT W B v TT) ∧ ∀ W v f, RkR T sc W v f → TyL W v TT.length (fun j => TT.getD j (0, 0)) := by
  by_cases ha : (sc = 2 ∨ sc = 3) ∧ Res T 0 0 ∧ (ovS T sc).2 = none
  · obtain ⟨h1, h2, h3⟩ := ha
    refine ⟨(List.range T.length).map (ovS T sc).1, by simp; exact h2.ok.2.1, fun B W v ev h => ?_, fun W v f h => ?_⟩
    rotate_left
    · rcases h with ⟨⟨n2, n3⟩, _⟩ | ⟨_, ⟨c, i, hr, hne, _⟩ | ⟨_, ⟨_, ht, _⟩ | ⟨c, i, hs, _⟩⟩⟩
      · rcases h1 with h | h
        · exact absurd h n2
        · exact absurd h n3
      · exact absurd (res_one hr h2).1 hne
      · have e : ((List.range T.length).map (ovS T sc).1).length = T.length := by simp
        rw [e]
        refine ht.congr (fun j hj => ?_)
        rw [List.getD_eq_getElem?_getD, List.getElem?_map, List.getElem?_range hj]
        rfl
      · rw [h3] at hs
        cases hs
    rcases h with ⟨_, _, _, gt, rfl, _, xs, hx, hc⟩ | ⟨_, N, _, hf⟩
    · have hl : xs.length = T.length * 2 := hx.1
      have e : xs = cellsT2 ((List.range T.length).map (ovS T sc).1) := by
        apply List.ext_getElem?
        intro i
        by_cases hi : i < T.length * 2
        · have hj : i / 2 < T.length := by omega
          have ⟨c1, c2⟩ := hc (i / 2) hj
          have ⟨d1, d2⟩ := cT_at ((List.range T.length).map (ovS T sc).1) (i / 2) (by simp; exact hj)
          have hg : ((List.range T.length).map (ovS T sc).1).getD (i / 2) (0, 0) = (ovS T sc).1 (i / 2) := by
            rw [List.getD_eq_getElem?_getD, List.getElem?_map, List.getElem?_range hj]
            rfl
          rw [hg] at d1 d2
          by_cases hm : i % 2 = 0
          · have ei : i = i / 2 * 2 := by omega
            rw [ei, c1, d1]
          · have ei : i = i / 2 * 2 + 1 := by omega
            rw [ei, c2, d2]
        · rw [List.getElem?_eq_none (by omega), List.getElem?_eq_none (by rw [cT_len]; simp; omega)]
      unfold OwT
      rw [← e]
      simpa using hx
    · exfalso
      rcases hf with ⟨⟨n2, n3⟩, _⟩ | ⟨_, ⟨N, c, i, _, _, hr, hne⟩ | ⟨_, c, a, hs, _⟩⟩
      · rcases h1 with h | h
        · exact n2 h
        · exact n3 h
      · exact hne (res_one hr h2).1
      · rw [h3] at hs
        cases hs
  · refine ⟨[], by simp, fun B W v ev h => ?_, fun W v f h => ?_⟩
    rotate_left
    · rcases h with ⟨_, rfl, _⟩ | ⟨h1, ⟨c, i, _, _, rfl, _⟩ | ⟨h2, ⟨h3, _⟩ | ⟨c, i, _, rfl, _⟩⟩⟩
      · exact tyl_nil W _
      · exact tyl_nil W _
      · exact absurd ⟨h1, h2, h3⟩ ha
      · exact tyl_nil W _
    rcases h with ⟨_, h1, h2, gt, _, h3, _⟩ | ⟨rfl, _⟩
    · exact absurd ⟨h1, h2, h3⟩ ha
    · exact World.ownsRow_nil _ _ _ _
/-- The lists as they are collected. -/
structure Fk (W : World) (base : Nat) (va : Value) (fl : List Value) (T : List Ty2) (k : Nat) : Prop where
  all : W.ownsRow base 31 1 va k fl
  own : ∀ j, j < k → OwT W base (fv_ fl j) T
  sep : ∀ i j, i < k → j < k → i ≠ j → (fv_ fl i).ownBlock = none ∨ (fv_ fl i).ownBlock ≠ (fv_ fl j).ownBlock
theorem Fk.low {W W' : World} {base k : Nat} {va : Value} {fl : List Value} {T : List Ty2} (h : Fk W base va fl T k) (hk : Below W.heap.size W W') : Fk W' base va fl T k :=
  ⟨row_low h.all hk, fun j hj => row_low (h.own j hj) hk, h.sep⟩
theorem Fk.snoc {W W1 W2 : World} {base k : Nat} {va va' v : Value} {fl : List Value} {T : List Ty2} (h : Fk W base va fl T k) (hb : Below W.heap.size W W1) (ho : OwT W1 W.heap.size v T) (hbase : base ≤ W.heap.size) (hg : W1.grownBy W2 va.ownBlock) (hr : W2.ownsRow base 31 1 va' (k + 1) (fl ++ [v])) : Fk W2 base va' (fl ++ [v]) T (k + 1) := by
  have hlen : fl.length = k := by have := h.all.1; simpa using this
  have h1 := h.low hb
  have ne43 : ∀ (u : Value) (b : Nat) (l : List Ty2), OwT W1 b u l → u.ownBlock = none ∨ u.ownBlock ≠ va.ownBlock := fun u b l o => row_ne o h1.all (by decide)
  refine ⟨hr, fun j hj => ?_, fun i j hi hj hne => ?_⟩
  · rw [fv_snoc, hlen]
    by_cases hjk : j < k
    · rw [if_pos hjk]
      exact World.ownsRow.kept (h1.own j hjk) hg (ne43 _ _ _ (h1.own j hjk))
    · rw [if_neg hjk, if_pos (by omega)]
      exact row_mono (World.ownsRow.kept ho hg (ne43 _ _ _ ho)) hbase
  · rw [fv_snoc, fv_snoc, hlen]
    by_cases hik : i < k
    · rw [if_pos hik]
      by_cases hjk : j < k
      · rw [if_pos hjk]
        exact h.sep i j hik hjk hne
      · rw [if_neg hjk, if_pos (by omega)]
        cases e : (fv_ fl i).ownBlock with
        | none => exact .inl rfl
        | some b =>
          right
          intro e2
          have q1 := (row_lt (h.own i hik) e).2
          have q2 := (row_lt ho e2.symm).1
          omega
    · rw [if_neg hik, if_pos (by omega), if_pos (by omega : j < k)]
      cases e : v.ownBlock with
      | none => exact .inl rfl
      | some b =>
        right
        intro e2
        have q1 := (row_lt (h.own j (by omega)) e2.symm).2
        have q2 := (row_lt ho e).1
        omega
/-- A label's side turned about. -/
def relab (p : Pt) : Pt := if p.kind = 14 then ⟨p.kind, p.text, wrap64 (6 - p.num), p.kids⟩ else p
def Tk (T : List Pt) (k : Nat) : List Pt := (T.take k).map relab ++ T.drop k
theorem Tk_len (T : List Pt) (k : Nat) : (Tk T k).length = T.length := by
  unfold Tk
  simp
  omega
theorem Tk_get (T : List Pt) (k j : Nat) : pt (Tk T k) j = if j < k then relab (pt T j) else pt T j := by
  unfold pt Tk
  rw [List.getD_eq_getElem?_getD, List.getD_eq_getElem?_getD]
  by_cases h : j < k
  · rw [if_pos h]
    by_cases hl : j < T.length
    · rw [List.getElem?_append_left (by simp; omega), List.getElem?_map, List.getElem?_take_of_lt h, List.getElem?_eq_getElem hl]
      rfl
    · rw [List.getElem?_append_right (by simp; omega), List.getElem?_eq_none (by simp; omega), List.getElem?_eq_none (by omega)]
      rfl
  · rw [if_neg h]
    by_cases hl : k ≤ T.length
    · rw [List.getElem?_append_right (by simp; omega), List.getElem?_drop]
      have : (List.map relab (List.take k T)).length = k := by simp; omega
      rw [this]
      have : k + (j - k) = j := by omega
      rw [this]
    · rw [List.getElem?_eq_none (by simp; omega), List.getElem?_eq_none (by omega)]
theorem Tk_at (T : List Pt) (k : Nat) : pt (Tk T k) k = pt T k := by rw [Tk_get, if_neg (by omega)]
theorem pt_ext {A B : List Pt} (hl : A.length = B.length) (h : ∀ j, j < A.length → pt A j = pt B j) : A = B := by
  apply List.ext_getElem hl
  intro j h1 h2
  have := h j h1
  unfold pt at this
  rwa [List.getD_eq_getElem?_getD, List.getD_eq_getElem?_getD, List.getElem?_eq_getElem h1, List.getElem?_eq_getElem h2] at this
theorem relab_no {p : Pt} (h : p.kind ≠ 14) : relab p = p := by unfold relab; rw [if_neg h]
theorem Tk_skip (T : List Pt) (k : Nat) (hk : k < T.length) (h : (pt T k).kind ≠ 14) : Tk T (k + 1) = Tk T k := by
  refine pt_ext (by rw [Tk_len, Tk_len]) (fun j hj => ?_)
  rw [Tk_get, Tk_get]
  by_cases h1 : j < k
  · rw [if_pos h1, if_pos (by omega)]
  · rw [if_neg h1]
    by_cases h2 : j = k
    · rw [if_pos (by omega), h2, relab_no h]
    · rw [if_neg (by omega)]
theorem CP_ext {A B : List Pt} (ks : Nat → Value) : ∀ {k : Nat}, (∀ j, j < k → pt A j = pt B j) → CP A ks k = CP B ks k
  | 0, _ => rfl
  | k + 1, h => by
    simp only [CP]
    rw [CP_ext ks (fun j hj => h j (by omega)), h k (by omega)]
theorem CP_num (A B : List Pt) (ks : Nat → Value) (j : Nat) (u : Int) (hj : pt B j = ⟨(pt A j).kind, (pt A j).text, u, (pt A j).kids⟩) (ho : ∀ i, i ≠ j → pt B i = pt A i) : ∀ (k : Nat), j < k → (CP A ks k).set (j * 4 + 2) (.int .i64 u) = CP B ks k
  | k + 1, h => by
    simp only [CP]
    by_cases e : j < k
    · rw [List.set_append_left _ _ (by rw [CP_len]; omega), CP_num A B ks j u hj ho k e, ho k (by omega)]
    · have : j = k := by omega
      subst this
      rw [List.set_append_right _ _ (by rw [CP_len]; omega), CP_len]
      have e1 : CP B ks j = CP A ks j := CP_ext ks (fun i hi => ho i (by omega))
      rw [e1, hj]
      have e2 : j * 4 + 2 - j * 4 = 2 := by omega
      rw [e2]
      rfl
/-- The copy, while it is written into. -/
structure Kmd (w W : World) (base mb : Nat) (a' : Option Addr) (n mc : Nat) (T : List Pt) (ks : Nat → Value) : Prop where
  low : Below w.heap.size w W
  bse : w.heap.size ≤ base
  mbx : W.heap[mb]? = some (.cells #[.slice a' n mc] 26 (0, 0))
  mine : OwnP W base (.slice a' n mc) T ks n
theorem Kmd.next {w W : World} {base mb gp n mc k : Nat} {T : List Pt} {ks : Nat → Value} (h : Kmd w W base mb (some ⟨gp, 0, none⟩) n mc (Tk T k) ks) (hk : k < n) (hn : n = T.length) (h14 : (pt T k).kind = 14) (Y : World) (hb : Below W.heap.size W Y) :
    Kmd w (Y.setCell ⟨gp, k * 4 + 2, none⟩ (.int .i64 (wrap64 (6 - (pt T k).num)))) base mb (some ⟨gp, 0, none⟩) n mc (Tk T (k + 1)) ks ∧ Below base W (Y.setCell ⟨gp, k * 4 + 2, none⟩ (.int .i64 (wrap64 (6 - (pt T k).num)))) := by
  have hM := h.mine.low hb
  have hgl := row_lt h.mine.row rfl
  have hg := Ap.grown_set Y gp (k * 4 + 2) (.int .i64 (wrap64 (6 - (pt T k).num)))
  obtain ⟨cs, hcs⟩ := row_heap hM.row
  have hB : Below base W (Y.setCell ⟨gp, k * 4 + 2, none⟩ (.int .i64 (wrap64 (6 - (pt T k).num)))) := (hb.mono (by have := hgl.1; have := hgl.2; omega)).setCell (p := ⟨gp, k * 4 + 2, none⟩) hgl.1 _
  have hat : pt (Tk T (k + 1)) k = ⟨(pt (Tk T k) k).kind, (pt (Tk T k) k).text, wrap64 (6 - (pt T k).num), (pt (Tk T k) k).kids⟩ := by
    rw [Tk_get, if_pos (by omega), Tk_at]
    unfold relab
    rw [if_pos h14]
  have hot : ∀ i, i ≠ k → pt (Tk T (k + 1)) i = pt (Tk T k) i := fun i hi => by
    rw [Tk_get, Tk_get]
    by_cases h1 : i < k
    · rw [if_pos h1, if_pos (by omega)]
    · rw [if_neg h1, if_neg (by omega)]
  have hkid : ∀ j, (pt (Tk T (k + 1)) j).kids = (pt (Tk T k) j).kids := fun j => by
    by_cases e : j = k
    · rw [e, hat]
    · rw [hot j e]
  refine ⟨⟨h.low.trans (hB.mono h.bse), h.bse, ?_, ⟨?_, fun j hj => ?_⟩⟩, hB⟩
  · exact (Below.heap_setCell Y ⟨gp, k * 4 + 2, none⟩ _ mb (blk_ne h.mine.row h.mbx (by decide))).trans ((hb.block mb (lt_blk h.mbx)).trans h.mbx)
  · have h3 := row_set hM.row (k * 4 + 2) (by omega) (.int .i64 (wrap64 (6 - (pt T k).num)))
    rwa [CP_num (Tk T k) (Tk T (k + 1)) ks k _ hat hot n hk] at h3
  · rw [hkid]
    exact World.ownsRow.kept (hM.kids j hj) hg (row_off (hM.kids j hj) hcs (by decide))
theorem Kmd.pls {w W : World} {base mb : Nat} {a' : Option Addr} {n mc : Nat} {T : List Pt} {ks : Nat → Value} (h : Kmd w W base mb a' n mc T ks) (hn : n = T.length) : PLs W a' T := by
  have h1 := h.mine
  rw [hn] at h1
  obtain ⟨a1, c1, e, hp⟩ := h1.pl
  cases e
  exact hp
theorem sumK_kids {A B : List Pt} (hl : A.length = B.length) (hk : ∀ j, (pt A j).kids = (pt B j).kids) : ∀ k, sumK A k = sumK B k
  | 0 => hl
  | k + 1 => by simp only [sumK, sumK_kids hl hk k, hk k]
theorem Tk_kids (T : List Pt) (k j : Nat) : (pt (Tk T k) j).kids = (pt T j).kids := by
  rw [Tk_get]
  split
  · unfold relab
    split <;> rfl
  · rfl
end Go.Proofs.YtiddnjjaidiohaaGreatDoor.L.Kp
