import Derived.Test.YtppblibcbjpfnaaDoorCpy
import Derived.Test.YtppblibcbjpfnaaDoorAwk
import Derived.Deep.RegionHeld3
namespace Go.Proofs.YtppblibcbjpfnaaDoor.L
open Go.RowKit
set_option linter.unusedVariables false
/-- The law's argument in memory. -/
structure OpAt (W : World) (b : Nat) (t : Tn) (o : To) (s key : ByteArray) (v vo : Value) : Prop where
  c1 : W.cell? ⟨b, 1, none⟩ = some (.string t.1)
  c2 : W.cell? ⟨b, 2, none⟩ = some (.string t.2.1)
  c3 : W.cell? ⟨b, 3, none⟩ = some (.string t.2.2)
  c4 : W.cell? ⟨b, 4, none⟩ = some (.string o.1)
  c5 : W.cell? ⟨b, 5, none⟩ = some (.string o.2.1)
  c6 : W.cell? ⟨b, 6, none⟩ = some (.string o.2.2.1)
  c7 : W.cell? ⟨b, 7, none⟩ = some (.string o.2.2.2)
  c8 : W.cell? ⟨b, 8, none⟩ = some (.string s)
  c9 : W.cell? ⟨b, 9, none⟩ = some (.string key)
  c10 : W.cell? ⟨b, 10, none⟩ = some v
  c11 : W.cell? ⟨b, 11, none⟩ = some vo
  lt : b < W.heap.size
theorem op_new (w : World) (kd : Int) (t : Tn) (o : To) (s key : ByteArray) (v vo : Value) (ty : TypeId) : OpAt (w.alloc (.cells #[.int .i64 kd, .string t.1, .string t.2.1, .string t.2.2, .string o.1, .string o.2.1, .string o.2.2.1, .string o.2.2.2, .string s, .string key, v, vo] ty)) w.heap.size t o s key v vo := by
  have h : (w.alloc (.cells #[.int .i64 kd, .string t.1, .string t.2.1, .string t.2.2, .string o.1, .string o.2.1, .string o.2.2.1, .string o.2.2.2, .string s, .string key, v, vo] ty)).heap[w.heap.size]? = some (.cells #[.int .i64 kd, .string t.1, .string t.2.1, .string t.2.2, .string o.1, .string o.2.1, .string o.2.2.1, .string o.2.2.2, .string s, .string key, v, vo] ty) := by
    show (w.heap.push _)[w.heap.size]? = _
    simp
  refine ⟨?_, ?_, ?_, ?_, ?_, ?_, ?_, ?_, ?_, ?_, ?_, ?_⟩
  all_goals first | (unfold World.cell?; rw [h]; rfl) | simp
theorem cells12 : Tryd.prog.cellsOf 29 = 12 := by kernel_rfl
theorem OpAt.low {W W' : World} {b : Nat} {t : Tn} {o : To} {s key : ByteArray} {v vo : Value} (h : OpAt W b t o s key v vo) (hb : Below W.heap.size W W') : OpAt W' b t o s key v vo := by
  have e : ∀ i, W'.cell? ⟨b, i, none⟩ = W.cell? ⟨b, i, none⟩ := fun i => hb.cell (p := ⟨b, i, none⟩) h.lt
  obtain ⟨a1, a2, a3, a4, a5, a6, a7, a8, a9, a10, a11, lt⟩ := h
  exact ⟨(e _).trans a1, (e _).trans a2, (e _).trans a3, (e _).trans a4, (e _).trans a5, (e _).trans a6, (e _).trans a7, (e _).trans a8, (e _).trans a9, (e _).trans a10, (e _).trans a11, Nat.lt_of_lt_of_le lt hb.size⟩
theorem mts_take (os : List To) (t : Tn) (j : Nat) (h : j < os.length) : mts (os.take (j + 1)) t = (mts (os.take j) t || mt os[j] t) := by
  unfold mts
  rw [List.take_succ_eq_append_getElem h, List.any_append]
  simp
theorem lft_split (l : List Tn) (os : List To) (f : ByteArray) (k : Nat) (h : k < l.length) (c : keepB os f l[k] = true) : ∃ hk : (lft (l.take k) os f).length < (lft l os f).length, (lft l os f)[(lft (l.take k) os f).length] = l[k] := by
  have e : lft l os f = lft (l.take k) os f ++ l[k] :: lft (l.drop (k + 1)) os f := by
    conv => lhs; rw [← List.take_append_drop k l, List.drop_eq_getElem_cons h]
    unfold lft
    rw [List.filter_append, List.filter_cons_of_pos c]
  refine ⟨by rw [e]; simp, ?_⟩
  simp only [e]
  rw [List.getElem_append_right (Nat.le_refl _)]
  simp
theorem tri_low {W W' : World} {b : Nat} {x y z : Value} (h : W.cell? ⟨b, 10, none⟩ = some x ∧ W.cell? ⟨b, 11, none⟩ = some y ∧ W.cell? ⟨b, 8, none⟩ = some z) (hb : Below W.heap.size W W') (hz : b < W.heap.size) : W'.cell? ⟨b, 10, none⟩ = some x ∧ W'.cell? ⟨b, 11, none⟩ = some y ∧ W'.cell? ⟨b, 8, none⟩ = some z :=
  ⟨(hb.cell (p := ⟨b, 10, none⟩) hz).trans h.1, (hb.cell (p := ⟨b, 11, none⟩) hz).trans h.2.1, (hb.cell (p := ⟨b, 8, none⟩) hz).trans h.2.2⟩
theorem nine_low {W W' : World} {b c d i1 i2 i3 i4 i5 i6 i7 i8 i9 : Nat} {u1 u2 u3 u4 u5 u6 u7 u8 u9 : Value} (h : W.cell? ⟨b, i1, none⟩ = some u1 ∧ W.cell? ⟨b, i2, none⟩ = some u2 ∧ W.cell? ⟨c, i3, none⟩ = some u3 ∧ W.cell? ⟨c, i4, none⟩ = some u4 ∧ W.cell? ⟨c, i5, none⟩ = some u5 ∧ W.cell? ⟨d, i6, none⟩ = some u6 ∧ W.cell? ⟨d, i7, none⟩ = some u7 ∧ W.cell? ⟨d, i8, none⟩ = some u8 ∧ W.cell? ⟨d, i9, none⟩ = some u9) (hb : Below W.heap.size W W') (h1 : b < W.heap.size) (h2 : c < W.heap.size) (h3 : d < W.heap.size) :
    W'.cell? ⟨b, i1, none⟩ = some u1 ∧ W'.cell? ⟨b, i2, none⟩ = some u2 ∧ W'.cell? ⟨c, i3, none⟩ = some u3 ∧ W'.cell? ⟨c, i4, none⟩ = some u4 ∧ W'.cell? ⟨c, i5, none⟩ = some u5 ∧ W'.cell? ⟨d, i6, none⟩ = some u6 ∧ W'.cell? ⟨d, i7, none⟩ = some u7 ∧ W'.cell? ⟨d, i8, none⟩ = some u8 ∧ W'.cell? ⟨d, i9, none⟩ = some u9 := by
  obtain ⟨a1, a2, a3, a4, a5, a6, a7, a8, a9⟩ := h
  exact ⟨(hb.cell (p := ⟨b, i1, none⟩) h1).trans a1, (hb.cell (p := ⟨b, i2, none⟩) h1).trans a2, (hb.cell (p := ⟨c, i3, none⟩) h2).trans a3, (hb.cell (p := ⟨c, i4, none⟩) h2).trans a4, (hb.cell (p := ⟨c, i5, none⟩) h2).trans a5, (hb.cell (p := ⟨d, i6, none⟩) h3).trans a6, (hb.cell (p := ⟨d, i7, none⟩) h3).trans a7, (hb.cell (p := ⟨d, i8, none⟩) h3).trans a8, (hb.cell (p := ⟨d, i9, none⟩) h3).trans a9⟩
theorem sev_low {W W' : World} {b : Nat} {x y z p q r u : Value} (h : W.cell? ⟨b, 10, none⟩ = some x ∧ W.cell? ⟨b, 11, none⟩ = some y ∧ W.cell? ⟨b, 8, none⟩ = some z ∧ W.cell? ⟨b, 4, none⟩ = some p ∧ W.cell? ⟨b, 5, none⟩ = some q ∧ W.cell? ⟨b, 6, none⟩ = some r ∧ W.cell? ⟨b, 7, none⟩ = some u) (hb : Below W.heap.size W W') (hz : b < W.heap.size) :
    W'.cell? ⟨b, 10, none⟩ = some x ∧ W'.cell? ⟨b, 11, none⟩ = some y ∧ W'.cell? ⟨b, 8, none⟩ = some z ∧ W'.cell? ⟨b, 4, none⟩ = some p ∧ W'.cell? ⟨b, 5, none⟩ = some q ∧ W'.cell? ⟨b, 6, none⟩ = some r ∧ W'.cell? ⟨b, 7, none⟩ = some u :=
  ⟨(hb.cell (p := ⟨b, 10, none⟩) hz).trans h.1, (hb.cell (p := ⟨b, 11, none⟩) hz).trans h.2.1, (hb.cell (p := ⟨b, 8, none⟩) hz).trans h.2.2.1, (hb.cell (p := ⟨b, 4, none⟩) hz).trans h.2.2.2.1, (hb.cell (p := ⟨b, 5, none⟩) hz).trans h.2.2.2.2.1, (hb.cell (p := ⟨b, 6, none⟩) hz).trans h.2.2.2.2.2.1, (hb.cell (p := ⟨b, 7, none⟩) hz).trans h.2.2.2.2.2.2⟩
/-- A block of one toleration. -/
def Blk (W : World) (p : Nat) (o : To) : Prop := p < W.heap.size ∧ ∀ (j : Nat) (u : Value), [Value.string o.1, .string o.2.1, .string o.2.2.1, .string o.2.2.2][j]? = some u → W.cell? ((⟨p, 0, none⟩ : Addr).add j) = some u
theorem blk_new (w : World) (o : To) (t : TypeId) : Blk (w.alloc (.cells #[.string o.1, .string o.2.1, .string o.2.2.1, .string o.2.2.2] t)) w.heap.size o := by
  refine ⟨by simp, fun j u hu => ?_⟩
  rw [Go.WideShapes.add_plain]
  have h : (w.alloc (.cells #[.string o.1, .string o.2.1, .string o.2.2.1, .string o.2.2.2] t)).heap[w.heap.size]? = some (.cells #[.string o.1, .string o.2.1, .string o.2.2.1, .string o.2.2.2] t) := by
    show (w.heap.push _)[w.heap.size]? = _
    simp
  unfold World.cell?
  rw [h]
  match j, hu with
  | 0, hu => simpa using hu
  | 1, hu => simpa using hu
  | 2, hu => simpa using hu
  | 3, hu => simpa using hu
  | n + 4, hu => simp at hu
theorem Blk.low {W W' : World} {p : Nat} {o : To} (h : Blk W p o) (hb : Below W.heap.size W W') : Blk W' p o := by
  refine ⟨Nat.lt_of_lt_of_le h.1 hb.size, fun j u hu => ?_⟩
  have := h.2 j u hu
  rw [Go.WideShapes.add_plain] at this ⊢
  rw [hb.cell (p := ⟨p, 0 + j, none⟩) h.1]
  exact this
theorem step_own {P : Program} (w : World) {ops : Array Oper} {o : Oper} {a : Act} {K : Act → World → Prop} {Q : Exit → Act → World → Prop} {E : Prop} (hgd : o.guard = none) (s x : Operand) (t : TypeId)
    (ho : o.op = .call { callee := .builtin .append, args := #[s, x], argTypes := #[t, t] })
    (base : Nat) (e : TypeId) (i : TypeInfo) (z : Value) (size bytes : Nat) (ht : P.underlying t = some (.slice e)) (hi : P.info? e = some i) (hz : i.zero = some z)
    (hsize : i.size = size) (hby : i.bytes = bytes) (hzs : z.cells.size = size) (hsz : 0 < size)
    (v : Value) (n : Nat) (xs : List Value) (hs : a.eval s = v) (hown : w.ownsRow base e size v n xs)
    (ad : Addr) (m c : Nat) (news : List Value) (hx : a.eval x = .slice (some ad) m c) (hl : news.length = m * size) (hnews : ∀ j u, news[j]? = some u → w.cell? (ad.add j) = some u) (h1 : ∀ u ∈ news, u.oneCell' = true)
    (h63 : n + m ≤ maxLen) (hbytes : (n + m) * bytes ≤ 140737488355328) (hbase : base ≤ w.heap.size)
    (h : ∀ v' w', w'.ownsRow base e size v' (n + m) (xs ++ news) → w.grownBy w' v.ownBlock → K (a.put o.dst v') w') :
    if Region.wanted o (yielded ops a.tmps) = true then Oper.wp P o a w K Q else E := by
  have hw : Region.wanted o (yielded ops a.tmps) = true := by simp [Region.wanted, hgd]
  rw [if_pos hw]
  exact wp_append_own w s x t ho base e i z size bytes ht hi hz hsize hby hzs hsz v n xs hs hown ad m c news hx hl hnews h1 h63 hbytes hbase (fun v' w' a b _ => h v' w' a b)
theorem one4 (o : To) : ∀ u ∈ [Value.string o.1, .string o.2.1, .string o.2.2.1, .string o.2.2.2], u.oneCell' = true := fun u hu => by
  simp at hu
  rcases hu with rfl | rfl | rfl | rfl <;> rfl
theorem ownO_snoc {w : World} {base : Nat} {v : Value} {l : List To} {o : To} (h : w.ownsRow base 25 4 v (l.length + 1) (cellsG 4 ofn l ++ [.string o.1, .string o.2.1, .string o.2.2.1, .string o.2.2.2])) : OwnO w base v (l ++ [o]) := by
  show w.ownsRow _ _ _ _ _ _
  rw [cellsG_app, List.length_append]
  exact h
theorem step_tols (w : World) {ops : Array Oper} {o : Oper} {a : Act} {K : Act → World → Prop} {Q : Exit → Act → World → Prop} {E : Prop} (hgd : o.guard = none) (s x : Operand)
    (ho : o.op = .call { callee := .builtin .append, args := #[s, x], argTypes := #[27, 27] })
    (base : Nat) (v : Value) (l os : List To) (hs : a.eval s = v) (hown : OwnO w base v l) (sv : Value) (hx : a.eval x = sv) (hsrc : CameO w sv os)
    (h63 : l.length + os.length ≤ maxLen) (hbytes : (l.length + os.length) * 64 ≤ 140737488355328) (hbase : base ≤ w.heap.size)
    (h : ∀ v' w', OwnO w' base v' (l ++ os) → w.grownBy w' v.ownBlock → K (a.put o.dst v') w') :
    if Region.wanted o (yielded ops a.tmps) = true then Oper.wp Tryd.prog o a w K Q else E := by
  obtain ⟨i0, hi0, hz0, hz1, hz2⟩ := info_parts infoO
  have hw : Region.wanted o (yielded ops a.tmps) = true := by simp [Region.wanted, hgd]
  rw [if_pos hw]
  rcases hsrc with ⟨rfl, rfl⟩ | ⟨ad, cap, rfl, _, hsrc⟩
  · have hrun := run_append_owned_none (P := Tryd.prog) (w := w) base 27 o.type 25 i0 4 Tryd.underlying27 hi0 v _ _ hown
    unfold Oper.wp
    simp [execOp, ho, resolve, invoke, builtin, hs, hx, hrun, Result.andThen]
    exact h v w (by rw [List.append_nil]; exact hown) (World.grownBy.refl _ _)
  · refine wp_append_own w s x 27 ho base 25 i0 (.agg #[.string ByteArray.empty, .string ByteArray.empty, .string ByteArray.empty, .string ByteArray.empty]) 4 64 Tryd.underlying27 hi0 hz0 hz1 hz2 rfl (by decide) v l.length (cellsG 4 ofn l) hs hown ad os.length cap (cellsG 4 ofn os) hx (cellsG_len _ _ _) ?_ (cellsG_one _ _ _) h63 hbytes hbase (fun v' w' a b _ => h v' w' ?_ b)
    · rcases hsrc with h | ⟨b, off, rfl, h⟩
      · intro j u hu
        obtain ⟨h1, _⟩ := cellsG_get _ _ os j u hu
        omega
      · exact h.src
    · show w'.ownsRow _ _ _ _ _ _
      rw [cellsG_app, List.length_append]
      exact a
theorem ownG_grown {α : Type} {t : TypeId} {m : Nat} {f : α → Nat → ByteArray} {w w' : World} {base : Nat} {v : Value} {l : List α} {row : Option Nat} (h : OwnG t m f w base v l) (hg : w.grownBy w' row) (hr : ∀ k, row = some k → k < base) : OwnG t m f w' base v l := by
  obtain ⟨h1, h2⟩ := h
  refine ⟨h1, ?_⟩
  rcases h2 with h2 | ⟨g, cap, cur, hv, hb, hh, r⟩
  · exact Or.inl h2
  · refine Or.inr ⟨g, cap, cur, hv, hb, ?_, r⟩
    have hlt : g < w.heap.size := by
      apply Classical.byContradiction
      intro n
      rw [Array.getElem?_eq_none (by omega)] at hh
      cases hh
    rw [← hh]
    exact hg.block g hlt (fun e => by have := hr g e.symm; omega)
theorem own_build (w : World) (o : To) : OwnO (w.alloc (.cells #[.string o.1, .string o.2.1, .string o.2.2.1, .string o.2.2.2] 25)) w.heap.size (.slice (some ⟨w.heap.size, 0, none⟩) 1 1) [o] :=
  World.ownsRow_lit w _ 1 (Nat.le_refl _) (by unfold maxLen; decide) rfl
/-- The toleration for everything. -/
def evT : To := (⟨#[]⟩, ⟨#[69, 120, 105, 115, 116, 115]⟩, ⟨#[]⟩, ⟨#[]⟩)
theorem mt_every (t : Tn) : mt evT t = true := by
  unfold mt
  have e1 : emB evT.2.2.2 = true := by decide +kernel
  have e2 : eqS evT.2.1 sEx = true := by decide +kernel
  have e3 : evB evT = true := by decide +kernel
  rw [e1, e2, e3]
  rfl
theorem lft_every (l : List Tn) (os : List To) (f : ByteArray) : lft l (evT :: os) f = [] := by
  unfold lft
  rw [List.filter_eq_nil_iff]
  intro x _
  unfold keepB mts
  simp [mt_every]
theorem mt_exact (t : Tn) : mt (t.1, sEq, t.2.1, t.2.2) t = true := by
  unfold mt
  have e2 : eqS sEq sEx = false := by decide +kernel
  simp only [e2]
  rw [eqS_iff.2 rfl, eqS_iff.2 rfl, eqS_iff.2 rfl, eqS_iff.2 rfl]
  simp
theorem mt_wrong (t : Tn) : mt (t.1, sEq, t.2.1 ++ ⟨#[120]⟩, ByteArray.empty) t = false := by
  unfold mt
  have e2 : eqS sEq sEx = false := by decide +kernel
  have e3 : eqS (t.2.1 ++ ⟨#[120]⟩) t.2.1 = false := eqS_ne.2 (fun h => by
    have := congrArg ByteArray.size h
    rw [ByteArray.size_append] at this
    have e : (⟨#[120]⟩ : ByteArray).size = 1 := rfl
    omega)
  simp only [e2, e3]
  simp
theorem low4 {W W' : World} {b c : Nat} {x y z p q r u : Value} (h : W.cell? ⟨b, 10, none⟩ = some x ∧ W.cell? ⟨b, 11, none⟩ = some y ∧ W.cell? ⟨b, 8, none⟩ = some z ∧ W.cell? ⟨c, 0, none⟩ = some p ∧ W.cell? ⟨c, 1, none⟩ = some q ∧ W.cell? ⟨c, 2, none⟩ = some r ∧ W.cell? ⟨c, 3, none⟩ = some u) (hb : Below W.heap.size W W') (hz : b < W.heap.size) (hy : c < W.heap.size) :
    W'.cell? ⟨b, 10, none⟩ = some x ∧ W'.cell? ⟨b, 11, none⟩ = some y ∧ W'.cell? ⟨b, 8, none⟩ = some z ∧ W'.cell? ⟨c, 0, none⟩ = some p ∧ W'.cell? ⟨c, 1, none⟩ = some q ∧ W'.cell? ⟨c, 2, none⟩ = some r ∧ W'.cell? ⟨c, 3, none⟩ = some u :=
  ⟨(hb.cell (p := ⟨b, 10, none⟩) hz).trans h.1, (hb.cell (p := ⟨b, 11, none⟩) hz).trans h.2.1, (hb.cell (p := ⟨b, 8, none⟩) hz).trans h.2.2.1, (hb.cell (p := ⟨c, 0, none⟩) hy).trans h.2.2.2.1, (hb.cell (p := ⟨c, 1, none⟩) hy).trans h.2.2.2.2.1, (hb.cell (p := ⟨c, 2, none⟩) hy).trans h.2.2.2.2.2.1, (hb.cell (p := ⟨c, 3, none⟩) hy).trans h.2.2.2.2.2.2⟩
theorem four_new (w : World) (x y z u : Value) (t : TypeId) : (w.alloc (.cells #[x, y, z, u] t)).cell? ⟨w.heap.size, 0, none⟩ = some x ∧ (w.alloc (.cells #[x, y, z, u] t)).cell? ⟨w.heap.size, 1, none⟩ = some y ∧ (w.alloc (.cells #[x, y, z, u] t)).cell? ⟨w.heap.size, 2, none⟩ = some z ∧ (w.alloc (.cells #[x, y, z, u] t)).cell? ⟨w.heap.size, 3, none⟩ = some u := by
  have h : (w.alloc (.cells #[x, y, z, u] t)).heap[w.heap.size]? = some (.cells #[x, y, z, u] t) := by
    show (w.heap.push _)[w.heap.size]? = _
    simp
  refine ⟨?_, ?_, ?_, ?_⟩ <;> (unfold World.cell?; rw [h]; rfl)
theorem lft_more (l : List Tn) (os c : List To) (f : ByteArray) : (lft l (os ++ c) f).length ≤ (lft l os f).length := by
  unfold lft
  induction l with
  | nil => simp
  | cons x l ih =>
    simp only [List.filter_cons]
    by_cases h : keepB (os ++ c) f x = true
    · have h' : keepB os f x = true := by
        unfold keepB mts at *
        rw [List.any_append] at h
        simp at h ⊢
        exact ⟨h.1, h.2.1⟩
      rw [if_pos h, if_pos h']
      simpa using ih
    · rw [if_neg h]
      split
      · simp; omega
      · exact ih
set_option maxHeartbeats 4000000 in
set_option maxRecDepth 100000 in
theorem left_walk (kd : Int) (t : Tn) (o : To) (s key : ByteArray) (v vo : Value) (l : List Tn) (os : List To) (w : World) (hc : CameT w v l) (ho : CameO w vo os) (hg : GoodT l) (hgo : GoodO os) (ht : t.2.1.size ≤ 140737488351232) :
    Calls Tryd.prog 5 #[.agg #[.int .i64 kd, .string t.1, .string t.2.1, .string t.2.2, .string o.1, .string o.2.1, .string o.2.2.1, .string o.2.2.2, .string s, .string key, v, vo]] w fun e w' => e = .returned (.bool true) ∧ Below w.heap.size w w' := by
  have H0 := hid (op_new w kd t o s key v vo 29)
  have HW0 := hid (belowA w (.cells #[.int .i64 kd, .string t.1, .string t.2.1, .string t.2.2, .string o.1, .string o.2.1, .string o.2.2.1, .string o.2.2.2, .string s, .string key, v, vo] 29))
  have HC := hid hc
  have HO := hid ho
  have HG := hid hg
  have HGO := hid hgo
  clear hc ho hg hgo
  go_enter Tryd.func5, Tryd.ntmps5
  go_wp2_with fail
  refine (awake_any _).mono ?_
  rintro e w1 ⟨rfl, hb⟩
  have HW1 := hid (HW0.out.trans (hb.mono HW0.out.size))
  have H1 := hid (H0.out.low hb)
  clear hb HW0 H0
  go_wp2_with fail
  have T0 : w1.drew.cell? ⟨w.heap.size, 10, none⟩ = some v ∧ w1.drew.cell? ⟨w.heap.size, 11, none⟩ = some vo ∧ w1.drew.cell? ⟨w.heap.size, 8, none⟩ = some (.string s) := ⟨H1.out.c10, H1.out.c11, H1.out.c8⟩
  have Z0 := hid H1.out.lt
  have CT := hid (fun W (h : CameT W v l) => taints_any v l W h HG.out)
  have CO := hid (fun W (h : CameO W vo os) => tols_any vo os W h HGO.out)
  have CL := hid (fun W x y (h : ItemsG 3 tf W x l) (h' : ItemsG 4 ofn W y os) => left_any x y l os s W h h' HG.out HGO.out.1.1)
  go_region_held3 (fun W => W.cell? ⟨w.heap.size, 10, none⟩ = some v ∧ W.cell? ⟨w.heap.size, 11, none⟩ = some vo ∧ W.cell? ⟨w.heap.size, 8, none⟩ = some (.string s))
    (first | exact T0 | exact T1 | exact T2 | exact T3)
    (first
      | (go_at_call 16; refine (CT.out _ ?_).mono ?_; exact HC.out.low HW1.out.drew; rintro e w2 ⟨x1, rfl, hi1, hb1⟩; have T1 := tri_low T0 hb1 Z0.out; have X1 := hid (ownG_came hi1); have D1 := hid hb1; clear hi1 hb1; have B1 := hid (HW1.out.drew.trans (D1.out.mono HW1.out.size)); have Z1 := hid (Nat.lt_of_lt_of_le Z0.out D1.out.size))
      | (go_at_call 24; refine (CO.out _ ?_).mono ?_; exact HO.out.low B1.out; rintro e w3 ⟨x2, rfl, hi2, hb2⟩; have T2 := tri_low T1 hb2 Z1.out; have Y1 := hid (X1.out.low hb2).items; have Y2 := hid (ownG_came hi2).items; have D2 := hid hb2; clear hi2 hb2; have B2 := hid (B1.out.trans (D2.out.mono B1.out.size)); have Z2 := hid (Nat.lt_of_lt_of_le Z1.out D2.out.size))
      | (go_at_call 23; refine (CL.out _ _ _ Y1.out Y2.out).mono ?_; rintro e w4 ⟨vl, rfl, hol, hb3⟩; have T3 := tri_low T2 hb3 Z2.out; have OL := hid (ownG_came hol); have D3 := hid hb3; clear hol hb3; have B3 := hid (B2.out.trans (D3.out.mono B2.out.size)); have Z3 := hid (Nat.lt_of_lt_of_le Z2.out D3.out.size)))
  have H4 := hid (H1.out.low (((Below.refl w1.heap.size w1).drew.trans (D1.out)).trans ((D2.out.mono D1.out.size).trans (D3.out.mono (Nat.le_trans D1.out.size D2.out.size)))))
  clear T0 T1 T2 T3 X1 Y1 Y2 D1 D2 D3 B1 B2 Z1 Z2 H1 Z0 Z3 HW1
  obtain ⟨a, cap, rfl, ha⟩ := (HC.out.low B3.out).items
  obtain ⟨ao, co, rfl, hao⟩ := (HO.out.low B3.out).items
  obtain ⟨al, cl, rfl, hal⟩ := OL.out.items
  have hl1 := HG.out.1.1
  have ho1 := HGO.out.1.1
  have hk1 : (lft l os s).length ≤ l.length := lft_len l os s
  unfold maxLen at hl1 ho1
  have HL4 := hid (fun n (h : n < l.length) => lft_split l os s n h)
  have HLF := hid (show lft (l.take l.length) os s = lft l os s by rw [List.take_length])
  obtain ⟨S, hS⟩ : ∃ S, S = lft l os s := ⟨_, rfl⟩
  rw [← hS] at hal OL hk1 HL4 HLF ⊢
  have HS := hid hS
  clear hS
  obtain ⟨ll, hll⟩ : ∃ n, n = l.length := ⟨_, rfl⟩
  obtain ⟨lo, hlo⟩ : ∃ n, n = os.length := ⟨_, rfl⟩
  obtain ⟨ls, hls⟩ : ∃ n, n = S.length := ⟨_, rfl⟩
  rw [← hll] at hl1 hk1 HC CT H4 HLF ⊢
  rw [← hlo] at ho1 HO CO H4 ⊢
  rw [← hls] at hk1 OL ⊢
  have HLL := hid hll
  have HLO := hid hlo
  have HLS := hid hls
  have HA := hid ha
  have HAO := hid hao
  have HAL := hid hal
  clear ha hao hal hll hlo hls
  go_wp2_with fail
  go_loopw [4, 5] (fun kk i wr => ∃ n : Nat, n ≤ ll ∧ i = .int .i64 n ∧ kk = .int .i64 (lft (l.take n) os s).length ∧ Hid (Below w4.heap.size w4 wr)) (fun _ i _ => ll - (intOf i).toNat)
  case atStart => exact ⟨0, Nat.zero_le _, rfl, rfl, hid (Below.refl _ _)⟩
  case round =>
    obtain ⟨n, hn, rfl, rfl, HB⟩ := hrel
    have q10 := (H4.out.low HB.out).c10
    have q11 := (H4.out.low HB.out).c11
    have q8 := (H4.out.low HB.out).c8
    by_cases hlt : n < ll
    · have hnl : n < l.length := by rw [← HLL.out]; exact hlt
      rcases HA.out with h0 | ⟨b, off, rfl, hat⟩
      · omega
      have LC := hid (fun W (h : Below w4.heap.size w4 W) => show W.cell? ⟨b, off + n * 3, none⟩ = some (.string l[n].1) ∧ W.cell? ⟨b, off + n * 3 + 1, none⟩ = some (.string l[n].2.1) ∧ W.cell? ⟨b, off + n * 3 + 2, none⟩ = some (.string l[n].2.2) from
        ⟨(h.cell (p := ⟨b, off + n * 3, none⟩) hat.1).trans (hat.2 n hnl 0 (by decide)), (h.cell (p := ⟨b, off + n * 3 + 1, none⟩) hat.1).trans (hat.2 n hnl 1 (by decide)), (h.cell (p := ⟨b, off + n * 3 + 2, none⟩) hat.1).trans (hat.2 n hnl 2 (by decide))⟩)
      have MM := hid (fun (j : Nat) (h : j < os.length) W => match_any os[j] l[n] W)
      have MT := hid (fun (j : Nat) (h : j < os.length) => mts_take os l[n] j h)
      have KT := hid (lft_yes l os s n hnl)
      have KF := hid (lft_no l os s n hnl)
      have K4 := hid (HL4.out n hnl)
      have hwb : w.heap.size < wr.heap.size := (H4.out.low HB.out).lt
      generalize lft (l.take n) os s = P at *
      generalize l[n] = x at *
      obtain ⟨x0, x1, x2⟩ := x
      simp only [tv] at MM LC
      go_wp2_with fail
      go_loopw [6, 7] (fun m i wi => ∃ j : Nat, j ≤ lo ∧ i = .int .i64 j ∧ m = .bool (mts (os.take j) (x0, x1, x2)) ∧ Hid (Below w4.heap.size w4 wi)) (fun _ i _ => lo - (intOf i).toNat)
      case atStart => exact ⟨0, Nat.zero_le _, rfl, rfl, HB⟩
      case round =>
        obtain ⟨j, hj, rfl, rfl, HBi⟩ := hrel
        have r10 := (H4.out.low HBi.out).c10
        have r11 := (H4.out.low HBi.out).c11
        have hwi : w.heap.size < wr.heap.size := (H4.out.low HBi.out).lt
        by_cases hjl : j < lo
        · have hjo : j < os.length := by rw [← HLO.out]; exact hjl
          rcases HAO.out with h0 | ⟨b', off', rfl, hat'⟩
          · omega
          obtain ⟨c0, c1, c2⟩ := LC.out wr HBi.out
          have d0 : wr.cell? ⟨b', off' + j * 4, none⟩ = some (.string os[j].1) := (HBi.out.cell (p := ⟨b', off' + j * 4, none⟩) hat'.1).trans (hat'.2 j hjo 0 (by decide))
          have d1 : wr.cell? ⟨b', off' + j * 4 + 1, none⟩ = some (.string os[j].2.1) := (HBi.out.cell (p := ⟨b', off' + j * 4 + 1, none⟩) hat'.1).trans (hat'.2 j hjo 1 (by decide))
          have d2 : wr.cell? ⟨b', off' + j * 4 + 2, none⟩ = some (.string os[j].2.2.1) := (HBi.out.cell (p := ⟨b', off' + j * 4 + 2, none⟩) hat'.1).trans (hat'.2 j hjo 2 (by decide))
          have d3 : wr.cell? ⟨b', off' + j * 4 + 3, none⟩ = some (.string os[j].2.2.2) := (HBi.out.cell (p := ⟨b', off' + j * 4 + 3, none⟩) hat'.1).trans (hat'.2 j hjo 3 (by decide))
          have MMj := hid (fun W => MM.out j hjo W)
          have MTj := hid (MT.out j hjo)
          generalize os[j] = y at *
          obtain ⟨y0, y1, y2, y3⟩ := y
          simp only [ov] at MMj d0 d1 d2 d3
          have hbb : b' < wr.heap.size := Nat.lt_of_lt_of_le hat'.1 HBi.out.size
          have hbc : b < wr.heap.size := Nat.lt_of_lt_of_le hat.1 HBi.out.size
          clear hat'
          cases em : mt (y0, y1, y2, y3) (x0, x1, x2) <;>
          · rw [em] at MMj MTj
            clear em
            go_wp2_with fail
            have T0 : wr.drew.cell? ⟨w.heap.size, 10, none⟩ = some (.slice (some ⟨b, off, none⟩) ll cap) ∧ wr.drew.cell? ⟨w.heap.size, 11, none⟩ = some (.slice (some ⟨b', off', none⟩) lo co) ∧ wr.drew.cell? ⟨b, off + n * 3, none⟩ = some (.string x0) ∧ wr.drew.cell? ⟨b, off + n * 3 + 1, none⟩ = some (.string x1) ∧ wr.drew.cell? ⟨b, off + n * 3 + 2, none⟩ = some (.string x2) ∧ wr.drew.cell? ⟨b', off' + j * 4, none⟩ = some (.string y0) ∧ wr.drew.cell? ⟨b', off' + j * 4 + 1, none⟩ = some (.string y1) ∧ wr.drew.cell? ⟨b', off' + j * 4 + 2, none⟩ = some (.string y2) ∧ wr.drew.cell? ⟨b', off' + j * 4 + 3, none⟩ = some (.string y3) := ⟨r10, r11, c0, c1, c2, d0, d1, d2, d3⟩
            go_region_held3 (fun W => W.cell? ⟨w.heap.size, 10, none⟩ = some (.slice (some ⟨b, off, none⟩) ll cap) ∧ W.cell? ⟨w.heap.size, 11, none⟩ = some (.slice (some ⟨b', off', none⟩) lo co) ∧ W.cell? ⟨b, off + n * 3, none⟩ = some (.string x0) ∧ W.cell? ⟨b, off + n * 3 + 1, none⟩ = some (.string x1) ∧ W.cell? ⟨b, off + n * 3 + 2, none⟩ = some (.string x2) ∧ W.cell? ⟨b', off' + j * 4, none⟩ = some (.string y0) ∧ W.cell? ⟨b', off' + j * 4 + 1, none⟩ = some (.string y1) ∧ W.cell? ⟨b', off' + j * 4 + 2, none⟩ = some (.string y2) ∧ W.cell? ⟨b', off' + j * 4 + 3, none⟩ = some (.string y3))
              (first | exact T0 | exact T1)
              (first
                | (go_at_call 25; refine (MMj.out _).mono ?_; rintro e wj ⟨rfl, hbj⟩; have T1 := nine_low T0 hbj hwi hbc hbb; have D1 := hid hbj; clear hbj))
            have BJ := hid (HBi.out.drew.trans (D1.out.mono HBi.out.size))
            clear T0 T1 D1
            go_wp2_with fail
            exact ⟨⟨j + 1, by omega, by go_num, by rw [MTj.out]; simp, BJ⟩, by simp [intOf]; omega⟩
        · obtain rfl : j = lo := by omega
          have MJ := hid (show mts (os.take j) (x0, x1, x2) = mts os (x0, x1, x2) by rw [HLO.out, List.take_length])
          rw [MJ.out]
          obtain ⟨c0, c1, c2⟩ := LC.out wr HBi.out
          have r8 := (H4.out.low HBi.out).c8
          clear MT MM
          cases e1 : (x2.toList == s.toList)
          · have KF' := hid (KF.out (by unfold keepB eqS; rw [e1]; rfl))
            go_wp2_with fail
            go_quiet (fail)
            go_wp2_with fail
            exact ⟨⟨n + 1, by omega, by go_num, by rw [KF'.out], hid (below_drewN HBi.out nq)⟩, by simp [intOf]; omega⟩
          · cases e2 : mts os (x0, x1, x2)
            · obtain ⟨hks, hkx⟩ := K4.out (by unfold keepB eqS; rw [e1, e2]; rfl)
              have KT' := hid (KT.out (by unfold keepB eqS; rw [e1, e2]; rfl))
              rcases HAL.out with h0 | ⟨b', off', rfl, hat'⟩
              · omega
              have d0 : wr.cell? ⟨b', off' + P.length * 3, none⟩ = some (.string x0) := (HBi.out.cell (p := ⟨b', off' + P.length * 3, none⟩) hat'.1).trans ((hat'.2 P.length hks 0 (by decide)).trans (by rw [hkx]; rfl))
              have d1 : wr.cell? ⟨b', off' + P.length * 3 + 1, none⟩ = some (.string x1) := (HBi.out.cell (p := ⟨b', off' + P.length * 3 + 1, none⟩) hat'.1).trans ((hat'.2 P.length hks 1 (by decide)).trans (by rw [hkx]; rfl))
              have d2 : wr.cell? ⟨b', off' + P.length * 3 + 2, none⟩ = some (.string x2) := (HBi.out.cell (p := ⟨b', off' + P.length * 3 + 2, none⟩) hat'.1).trans ((hat'.2 P.length hks 2 (by decide)).trans (by rw [hkx]; rfl))
              have hbb : b' < wr.heap.size := Nat.lt_of_lt_of_le hat'.1 HBi.out.size
              have hbc : b < wr.heap.size := Nat.lt_of_lt_of_le hat.1 HBi.out.size
              rw [← HLS.out] at hks
              have KP := hid (show (lft (l.take (n + 1)) os s).length = P.length + 1 by rw [KT'.out]; simp)
              generalize P.length = kp at *
              clear hat' hkx KT' K4 KT KF
              have g1 : ¬ ((ls : Int) ≤ (kp : Int)) := by omega
              have g2 : (kp : Int) < (ls : Int) := by omega
              go_wp2_with fail
              go_quiet (fail)
              go_wp2_with fail
              rename_i nq0
              go_quiet (fail)
              go_wp2_with fail
              exact ⟨⟨n + 1, by omega, by go_num, by rw [KP.out]; go_num, hid (below_drewN HBi.out _)⟩, by simp [intOf]; omega⟩
            · have KF' := hid (KF.out (by unfold keepB eqS; rw [e1, e2]; rfl))
              clear K4 KT KF
              go_wp2_with fail
              go_quiet (fail)
              go_wp2_with fail
              exact ⟨⟨n + 1, by omega, by go_num, by rw [KF'.out], hid (below_drewN HBi.out nq)⟩, by simp [intOf]; omega⟩
    · obtain rfl : n = ll := by omega
      rw [HLF.out, ← HLS.out]
      clear HL4 HLF HA HAO HAL
      have hwb : w.heap.size < wr.heap.size := (H4.out.low HB.out).lt
      have BW := hid (B3.out.trans (HB.out.mono B3.out.size))
      have H5 := hid (H4.out.low HB.out)
      have CTo := hid (fun W x y (h : ItemsG 3 tf W x l) (h' : ItemsG 4 ofn W y os) => tolerated_any x y l os s W h h' HG.out HGO.out.1.1)
      rw [← HS.out, ← HLS.out, show decide (ls = 0) = ((ls : Int) == 0) from by
        by_cases h : ls = 0
        · subst h; rfl
        · have h' : ¬ (ls : Int) = 0 := by omega
          rw [decide_eq_false h]
          simpa using h'] at CTo
      go_wp2_with fail
      have T0 : wr.drew.cell? ⟨w.heap.size, 10, none⟩ = some (.slice a n cap) ∧ wr.drew.cell? ⟨w.heap.size, 11, none⟩ = some (.slice ao lo co) ∧ wr.drew.cell? ⟨w.heap.size, 8, none⟩ = some (.string s) := ⟨q10, q11, q8⟩
      clear q10 q11 q8
      go_region_held3 (fun W => W.cell? ⟨w.heap.size, 10, none⟩ = some (.slice a n cap) ∧ W.cell? ⟨w.heap.size, 11, none⟩ = some (.slice ao lo co) ∧ W.cell? ⟨w.heap.size, 8, none⟩ = some (.string s))
        (first | exact T0 | exact T1 | exact T2 | exact T3)
        (first
          | (go_at_call 16; refine (CT.out _ ?_).mono ?_; exact HC.out.low BW.out.drew; rintro e v2 ⟨x1, rfl, hi1, hb1⟩; have T1 := tri_low T0 hb1 hwb; have X1 := hid (ownG_came hi1); have D1 := hid hb1; clear hi1 hb1; have B1 := hid (BW.out.drew.trans (D1.out.mono BW.out.size)); have Z1 := hid (Nat.lt_of_lt_of_le hwb D1.out.size))
          | (go_at_call 24; refine (CO.out _ ?_).mono ?_; exact HO.out.low B1.out; rintro e v3 ⟨x2, rfl, hi2, hb2⟩; have T2 := tri_low T1 hb2 Z1.out; have Y1 := hid (X1.out.low hb2).items; have Y2 := hid (ownG_came hi2).items; have D2 := hid hb2; clear hi2 hb2; have B2 := hid (B1.out.trans (D2.out.mono B1.out.size)); have Z2 := hid (Nat.lt_of_lt_of_le Z1.out D2.out.size))
          | (go_at_call 26; refine (CTo.out _ _ _ Y1.out Y2.out).mono ?_; rintro e v4 ⟨rfl, hb3⟩; have T3 := tri_low T2 hb3 Z2.out; have D3 := hid hb3; clear hb3; have BT := hid (B2.out.trans (D3.out.mono B2.out.size)); have Z3 := hid (Nat.lt_of_lt_of_le Z2.out D3.out.size)))
      have H6 := hid (H5.out.low (((Below.refl wr.heap.size wr).drew.trans (D1.out)).trans ((D2.out.mono D1.out.size).trans (D3.out.mono (Nat.le_trans D1.out.size D2.out.size)))))
      clear T0 T1 T2 T3 X1 Y1 Y2 D1 D2 D3 B1 B2 Z1 Z2 H5 Z3
      clear BW HB hwb B3
      have hz4 : w.heap.size < v4.heap.size := H6.out.lt
      go_wp2_with fail
      obtain ⟨i0, hi0, hz0, hz1, hz2⟩ := info_parts infoO
      have hol : lo * 64 ≤ 140737488351232 := by rw [HLO.out]; exact HGO.out.1.2
      have CLM := hid (fun W x y (h : ItemsG 3 tf W x l) (h' : ItemsG 4 ofn W y (os ++ [o])) => left_any x y l (os ++ [o]) s W h h' HG.out (by rw [List.length_append, ← HLO.out]; unfold maxLen; simp; omega))
      have T0 : v4.drew.cell? ⟨w.heap.size, 10, none⟩ = some (.slice a n cap) ∧ v4.drew.cell? ⟨w.heap.size, 11, none⟩ = some (.slice ao lo co) ∧ v4.drew.cell? ⟨w.heap.size, 8, none⟩ = some (.string s) ∧ v4.drew.cell? ⟨w.heap.size, 4, none⟩ = some (.string o.1) ∧ v4.drew.cell? ⟨w.heap.size, 5, none⟩ = some (.string o.2.1) ∧ v4.drew.cell? ⟨w.heap.size, 6, none⟩ = some (.string o.2.2.1) ∧ v4.drew.cell? ⟨w.heap.size, 7, none⟩ = some (.string o.2.2.2) := ⟨H6.out.c10, H6.out.c11, H6.out.c8, H6.out.c4, H6.out.c5, H6.out.c6, H6.out.c7⟩
      have T0a : (v4.drew.alloc (.cells #[.string o.1, .string o.2.1, .string o.2.2.1, .string o.2.2.2] 25)).cell? ⟨w.heap.size, 10, none⟩ = some (.slice a n cap) ∧ (v4.drew.alloc (.cells #[.string o.1, .string o.2.1, .string o.2.2.1, .string o.2.2.2] 25)).cell? ⟨w.heap.size, 11, none⟩ = some (.slice ao lo co) ∧ (v4.drew.alloc (.cells #[.string o.1, .string o.2.1, .string o.2.2.1, .string o.2.2.2] 25)).cell? ⟨w.heap.size, 8, none⟩ = some (.string s) ∧ (v4.drew.alloc (.cells #[.string o.1, .string o.2.1, .string o.2.2.1, .string o.2.2.2] 25)).cell? ⟨w.heap.size, 4, none⟩ = some (.string o.1) ∧ (v4.drew.alloc (.cells #[.string o.1, .string o.2.1, .string o.2.2.1, .string o.2.2.2] 25)).cell? ⟨w.heap.size, 5, none⟩ = some (.string o.2.1) ∧ (v4.drew.alloc (.cells #[.string o.1, .string o.2.1, .string o.2.2.1, .string o.2.2.2] 25)).cell? ⟨w.heap.size, 6, none⟩ = some (.string o.2.2.1) ∧ (v4.drew.alloc (.cells #[.string o.1, .string o.2.1, .string o.2.2.1, .string o.2.2.2] 25)).cell? ⟨w.heap.size, 7, none⟩ = some (.string o.2.2.2) := sev_low T0 (belowA _ _) hz4
      go_region_held3 (fun W => W.cell? ⟨w.heap.size, 10, none⟩ = some (.slice a n cap) ∧ W.cell? ⟨w.heap.size, 11, none⟩ = some (.slice ao lo co) ∧ W.cell? ⟨w.heap.size, 8, none⟩ = some (.string s) ∧ W.cell? ⟨w.heap.size, 4, none⟩ = some (.string o.1) ∧ W.cell? ⟨w.heap.size, 5, none⟩ = some (.string o.2.1) ∧ W.cell? ⟨w.heap.size, 6, none⟩ = some (.string o.2.2.1) ∧ W.cell? ⟨w.heap.size, 7, none⟩ = some (.string o.2.2.2))
        (first | exact T0 | exact T0a | exact T1 | exact T1a | exact T2 | exact T2a | exact T3 | exact T4)
        (first
          | (go_at_call 16; refine (CT.out v4.drew ?_).mono ?_; exact HC.out.low BT.out.drew; rintro e y2 ⟨x1, rfl, hi1, hb1⟩; have T1 := sev_low T0 hb1 hz4; have X1 := hid (ownG_came hi1); have D1 := hid (show Below v4.heap.size v4 y2 from (Below.refl _ _).drew.trans hb1); have T1a := sev_low T1 (belowA _ (.cells #[.string o.1, .string o.2.1, .string o.2.2.1, .string o.2.2.2] 25)) (Nat.lt_of_lt_of_le hz4 D1.out.size); clear hi1 hb1)
          | (go_at_call 16; refine (CT.out (v4.drew.alloc (.cells #[.string o.1, .string o.2.1, .string o.2.2.1, .string o.2.2.2] 25)) ?_).mono ?_; exact HC.out.low (BT.out.drew.alloc BT.out.size _); rintro e y2 ⟨x1, rfl, hi1, hb1⟩; have T1 := sev_low T0a hb1 (by simp; omega); have X1 := hid (ownG_came hi1); have D1 := hid (show Below v4.heap.size v4 y2 from ((Below.refl _ _).drew.alloc (Nat.le_refl _) _).trans (hb1.mono (by simp))); have K1 := hid ((blk_new v4.drew o 25).low hb1); clear hi1 hb1)
          | (go_at_call 24; have K1' := K1; refine (CO.out y2 ?_).mono ?_; exact HO.out.low (BT.out.trans (D1.out.mono BT.out.size)); rintro e y3 ⟨x2, rfl, hi2, hb2⟩; have T2 := sev_low T1 hb2 (Nat.lt_of_lt_of_le hz4 D1.out.size); have OW := hid hi2; have D2 := hid hb2; have K2 := hid (K1.out.low hb2); clear hi2 hb2 K1 K1')
          | (go_at_call 24; refine (CO.out y2 ?_).mono ?_; exact HO.out.low (BT.out.trans (D1.out.mono BT.out.size)); rintro e y3 ⟨x2, rfl, hi2, hb2⟩; have T2 := sev_low T1 hb2 (Nat.lt_of_lt_of_le hz4 D1.out.size); have OW := hid hi2; have D2 := hid hb2; have T2a := sev_low T2 (belowA _ (.cells #[.string o.1, .string o.2.1, .string o.2.2.1, .string o.2.2.2] 25)) (Nat.lt_of_lt_of_le hz4 (Nat.le_trans D1.out.size hb2.size)); clear hi2 hb2)
          | (go_at_call 24; refine (CO.out (y2.alloc (.cells #[.string o.1, .string o.2.1, .string o.2.2.1, .string o.2.2.2] 25)) ?_).mono ?_; exact HO.out.low ((BT.out.trans (D1.out.mono BT.out.size)).alloc (Nat.le_trans BT.out.size D1.out.size) _); rintro e y3 ⟨x2, rfl, hi2, hb2⟩; have T2 := sev_low T1a hb2 (by have := D1.out.size; simp; omega); have OW := hid hi2; have D2 := hid (show Below y2.heap.size y2 y3 from (belowA _ _).trans (hb2.mono (by simp))); have D4 := hid hb2.size; have K2 := hid ((blk_new y2 o 25).low hb2); clear hi2 hb2)
          | (refine step_own _ rfl _ _ 27 rfl y2.heap.size 25 i0 (.agg #[.string ByteArray.empty, .string ByteArray.empty, .string ByteArray.empty, .string ByteArray.empty]) 4 64 Tryd.underlying27 hi0 hz0 hz1 hz2 rfl (by decide) x2 os.length (cellsG 4 ofn os) rfl OW.out ⟨v4.heap.size, 0, none⟩ 1 1 [.string o.1, .string o.2.1, .string o.2.2.1, .string o.2.2.2] rfl rfl K2.out.2 (one4 o) (by rw [← HLO.out]; unfold maxLen; omega) (by rw [← HLO.out]; omega) D2.out.size ?_; intro x3 y4 hown hgrow; have OW3 := hid (ownG_came (ownO_snoc hown)).items; have D3 := hid (show Below y2.heap.size y2 y4 from D2.out.grown hgrow D2.out.size (fun j hj => Nat.le_trans (Nat.le_refl _) (own_base OW.out j hj))); have X3 := hid (X1.out.low D3.out).items; have T3 := sev_low T1 D3.out (Nat.lt_of_lt_of_le hz4 D1.out.size); clear hown hgrow)
          | (refine step_own _ rfl _ _ 27 rfl (y2.alloc (.cells #[.string o.1, .string o.2.1, .string o.2.2.1, .string o.2.2.2] 25)).heap.size 25 i0 (.agg #[.string ByteArray.empty, .string ByteArray.empty, .string ByteArray.empty, .string ByteArray.empty]) 4 64 Tryd.underlying27 hi0 hz0 hz1 hz2 rfl (by decide) x2 os.length (cellsG 4 ofn os) rfl OW.out ⟨y2.heap.size, 0, none⟩ 1 1 [.string o.1, .string o.2.1, .string o.2.2.1, .string o.2.2.2] rfl rfl K2.out.2 (one4 o) (by rw [← HLO.out]; unfold maxLen; omega) (by rw [← HLO.out]; omega) (by have := D4.out; omega) ?_; intro x3 y4 hown hgrow; have OW3 := hid (ownG_came (ownO_snoc hown)).items; have D3 := hid (show Below y2.heap.size y2 y4 from D2.out.grown hgrow D2.out.size (fun j hj => Nat.le_trans (by simp) (own_base OW.out j hj))); have X3 := hid (X1.out.low D3.out).items; have T3 := sev_low T1 D3.out (Nat.lt_of_lt_of_le hz4 D1.out.size); clear hown hgrow)
          | (refine step_own _ rfl _ _ 27 rfl y2.heap.size 25 i0 (.agg #[.string ByteArray.empty, .string ByteArray.empty, .string ByteArray.empty, .string ByteArray.empty]) 4 64 Tryd.underlying27 hi0 hz0 hz1 hz2 rfl (by decide) x2 os.length (cellsG 4 ofn os) rfl (World.ownsRow.alloc OW.out _) ⟨y3.heap.size, 0, none⟩ 1 1 [.string o.1, .string o.2.1, .string o.2.2.1, .string o.2.2.2] rfl rfl (blk_new y3 o 25).2 (one4 o) (by rw [← HLO.out]; unfold maxLen; omega) (by rw [← HLO.out]; omega) (by have := D2.out.size; simp; omega) ?_; intro x3 y4 hown hgrow; have OW3 := hid (ownG_came (ownO_snoc hown)).items; have D3 := hid (show Below y2.heap.size y2 y4 from (D2.out.alloc D2.out.size _).grown hgrow (by have := D2.out.size; simp; omega) (fun j hj => own_base OW.out j hj)); have X3 := hid (X1.out.low D3.out).items; have T3 := sev_low T1 D3.out (Nat.lt_of_lt_of_le hz4 D1.out.size); clear hown hgrow)
          | (go_at_call 23; refine (CLM.out _ _ _ X3.out OW3.out).mono ?_; rintro e y5 ⟨vm, rfl, hol, hb5⟩; have T4 := sev_low T3 hb5 (Nat.lt_of_lt_of_le hz4 (Nat.le_trans D1.out.size D3.out.size)); have OM := hid (ownG_came hol); have D5 := hid (show Below v4.heap.size v4 y5 from D1.out.trans ((D3.out.mono D1.out.size).trans (hb5.mono (Nat.le_trans D1.out.size D3.out.size)))); clear hol hb5))
      all_goals (
        obtain ⟨am, cm, rfl, _⟩ := OM.out.items
        have H7 := hid (H6.out.low D5.out)
        have B5 := hid (BT.out.trans (D5.out.mono BT.out.size))
        have hmm := lft_more l os [o] s
        rw [← HS.out, ← HLS.out] at hmm
        generalize (lft l (os ++ [o]) s).length = lm at *
        have gm : ¬ ((ls : Int) < (lm : Int)) := by omega
        clear T0 T0a T1 T2 T3 T4 D1 D2 D3 D5 H6 OM OW OW3 X1 X3 BT CLM hz4
        go_wp2_with fail)
      all_goals (
        have HF := hid (four_new y5 (.string ⟨#[]⟩) (.string ⟨#[69, 120, 105, 115, 116, 115]⟩) (.string ⟨#[]⟩) (.string ⟨#[]⟩) 25)
        have B6 := hid (B5.out.alloc B5.out.size (.cells #[.string ⟨#[]⟩, .string ⟨#[69, 120, 105, 115, 116, 115]⟩, .string ⟨#[]⟩, .string ⟨#[]⟩] 25))
        have H8 := hid (H7.out.low (belowA y5 (.cells #[.string ⟨#[]⟩, .string ⟨#[69, 120, 105, 115, 116, 115]⟩, .string ⟨#[]⟩, .string ⟨#[]⟩] 25)))
        have hz6 : y5.heap.size < (y5.alloc (.cells #[.string ⟨#[]⟩, .string ⟨#[69, 120, 105, 115, 116, 115]⟩, .string ⟨#[]⟩, .string ⟨#[]⟩] 25)).heap.size := by simp
        have CLN := hid (fun W x y (h : ItemsG 3 tf W x l) (h' : ItemsG 4 ofn W y ([evT] ++ os)) => left_any x y l ([evT] ++ os) s W h h' HG.out (by rw [List.length_append, ← HLO.out]; unfold maxLen; simp; omega))
        rw [show lft l ([evT] ++ os) s = [] from lft_every l os s] at CLN
        clear HS HLS CTo H7 B5
        generalize y5.alloc (.cells #[.string ⟨#[]⟩, .string ⟨#[69, 120, 105, 115, 116, 115]⟩, .string ⟨#[]⟩, .string ⟨#[]⟩] 25) = E0 at *
        have hw6 : w.heap.size < E0.heap.size := H8.out.lt
        have T0 : E0.drew.cell? ⟨w.heap.size, 10, none⟩ = some (.slice a n cap) ∧ E0.drew.cell? ⟨w.heap.size, 11, none⟩ = some (.slice ao lo co) ∧ E0.drew.cell? ⟨w.heap.size, 8, none⟩ = some (.string s) ∧ E0.drew.cell? ⟨y5.heap.size, 0, none⟩ = some (.string ⟨#[]⟩) ∧ E0.drew.cell? ⟨y5.heap.size, 1, none⟩ = some (.string ⟨#[69, 120, 105, 115, 116, 115]⟩) ∧ E0.drew.cell? ⟨y5.heap.size, 2, none⟩ = some (.string ⟨#[]⟩) ∧ E0.drew.cell? ⟨y5.heap.size, 3, none⟩ = some (.string ⟨#[]⟩) := ⟨H8.out.c10, H8.out.c11, H8.out.c8, HF.out.1, HF.out.2.1, HF.out.2.2.1, HF.out.2.2.2⟩
        have T0a : (E0.drew.alloc (.cells #[.string ⟨#[]⟩, .string ⟨#[69, 120, 105, 115, 116, 115]⟩, .string ⟨#[]⟩, .string ⟨#[]⟩] 25)).cell? ⟨w.heap.size, 10, none⟩ = some (.slice a n cap) ∧ (E0.drew.alloc (.cells #[.string ⟨#[]⟩, .string ⟨#[69, 120, 105, 115, 116, 115]⟩, .string ⟨#[]⟩, .string ⟨#[]⟩] 25)).cell? ⟨w.heap.size, 11, none⟩ = some (.slice ao lo co) ∧ (E0.drew.alloc (.cells #[.string ⟨#[]⟩, .string ⟨#[69, 120, 105, 115, 116, 115]⟩, .string ⟨#[]⟩, .string ⟨#[]⟩] 25)).cell? ⟨w.heap.size, 8, none⟩ = some (.string s) ∧ (E0.drew.alloc (.cells #[.string ⟨#[]⟩, .string ⟨#[69, 120, 105, 115, 116, 115]⟩, .string ⟨#[]⟩, .string ⟨#[]⟩] 25)).cell? ⟨y5.heap.size, 0, none⟩ = some (.string ⟨#[]⟩) ∧ (E0.drew.alloc (.cells #[.string ⟨#[]⟩, .string ⟨#[69, 120, 105, 115, 116, 115]⟩, .string ⟨#[]⟩, .string ⟨#[]⟩] 25)).cell? ⟨y5.heap.size, 1, none⟩ = some (.string ⟨#[69, 120, 105, 115, 116, 115]⟩) ∧ (E0.drew.alloc (.cells #[.string ⟨#[]⟩, .string ⟨#[69, 120, 105, 115, 116, 115]⟩, .string ⟨#[]⟩, .string ⟨#[]⟩] 25)).cell? ⟨y5.heap.size, 2, none⟩ = some (.string ⟨#[]⟩) ∧ (E0.drew.alloc (.cells #[.string ⟨#[]⟩, .string ⟨#[69, 120, 105, 115, 116, 115]⟩, .string ⟨#[]⟩, .string ⟨#[]⟩] 25)).cell? ⟨y5.heap.size, 3, none⟩ = some (.string ⟨#[]⟩) := low4 T0 (belowA _ _) hw6 hz6
        go_region_held3 (fun W => W.cell? ⟨w.heap.size, 10, none⟩ = some (.slice a n cap) ∧ W.cell? ⟨w.heap.size, 11, none⟩ = some (.slice ao lo co) ∧ W.cell? ⟨w.heap.size, 8, none⟩ = some (.string s) ∧ W.cell? ⟨y5.heap.size, 0, none⟩ = some (.string ⟨#[]⟩) ∧ W.cell? ⟨y5.heap.size, 1, none⟩ = some (.string ⟨#[69, 120, 105, 115, 116, 115]⟩) ∧ W.cell? ⟨y5.heap.size, 2, none⟩ = some (.string ⟨#[]⟩) ∧ W.cell? ⟨y5.heap.size, 3, none⟩ = some (.string ⟨#[]⟩))
          (first | exact T0 | exact T0a | exact T1 | exact T1a | exact T3 | exact T4)
          (first
            | (go_at_call 16; refine (CT.out E0.drew ?_).mono ?_; exact HC.out.low B6.out.drew; rintro e y6 ⟨x4, rfl, hi1, hb1⟩; have T1 := low4 T0 hb1 hw6 hz6; have X1 := hid (ownG_came hi1); have D1 := hid (show Below E0.heap.size E0 y6 from (Below.refl _ _).drew.trans hb1); have T1a := low4 T1 (belowA _ (.cells #[.string ⟨#[]⟩, .string ⟨#[69, 120, 105, 115, 116, 115]⟩, .string ⟨#[]⟩, .string ⟨#[]⟩] 25)) (Nat.lt_of_lt_of_le hw6 D1.out.size) (Nat.lt_of_lt_of_le hz6 D1.out.size); clear hi1 hb1)
            | (go_at_call 16; refine (CT.out (E0.drew.alloc (.cells #[.string ⟨#[]⟩, .string ⟨#[69, 120, 105, 115, 116, 115]⟩, .string ⟨#[]⟩, .string ⟨#[]⟩] 25)) ?_).mono ?_; exact HC.out.low (B6.out.drew.alloc B6.out.size _); rintro e y6 ⟨x4, rfl, hi1, hb1⟩; have T1 := low4 T0a hb1 (by simp; omega) (by simp; omega); have X1 := hid (ownG_came hi1); have D1 := hid (show Below E0.heap.size E0 y6 from ((Below.refl _ _).drew.alloc (Nat.le_refl _) _).trans (hb1.mono (by simp))); have K1 := hid (ownG_low (own_build E0.drew evT) hb1); have XO := hid hi1; clear hi1 hb1)
            | (refine step_tols _ rfl _ _ rfl E0.heap.size _ [evT] os rfl K1.out _ rfl (HO.out.low (B6.out.trans (D1.out.mono B6.out.size))) (by rw [← HLO.out]; unfold maxLen; simp; omega) (by rw [← HLO.out]; simp; omega) D1.out.size ?_; intro x5 y7 hown hgrow; have OW3 := hid (ownG_came hown).items; have D4 := hid (show Below E0.heap.size E0 y7 from D1.out.grown hgrow D1.out.size (fun j hj => own_base K1.out j hj)); have X3 := hid (ownG_came (ownG_grown XO.out hgrow (fun k hk => by cases hk; simp))).items; have T3 := low4 (W := E0) T0 D4.out hw6 hz6; clear hown hgrow)
            | (refine step_tols _ rfl _ _ rfl y6.heap.size _ [evT] os rfl (own_build y6 evT) _ rfl (HO.out.low ((B6.out.trans (D1.out.mono B6.out.size)).alloc (Nat.le_trans B6.out.size D1.out.size) _)) (by rw [← HLO.out]; unfold maxLen; simp; omega) (by rw [← HLO.out]; simp; omega) (by simp) ?_; intro x5 y7 hown hgrow; have OW3 := hid (ownG_came hown).items; have D3 := hid (show Below y6.heap.size y6 y7 from (belowA _ _).grown hgrow (by simp) (fun j hj => own_base (own_build y6 evT) j hj)); have X3 := hid (X1.out.low D3.out).items; have D4 := hid (D1.out.trans (D3.out.mono D1.out.size)); have T3 := low4 T1 D3.out (Nat.lt_of_lt_of_le hw6 D1.out.size) (Nat.lt_of_lt_of_le hz6 D1.out.size); clear hown hgrow)
            | (go_at_call 23; refine (CLN.out _ _ _ X3.out OW3.out).mono ?_; rintro e y8 ⟨vn, rfl, hol, hb5⟩; have T4 := low4 T3 hb5 (Nat.lt_of_lt_of_le hw6 D4.out.size) (Nat.lt_of_lt_of_le hz6 D4.out.size); have OM := hid (ownG_came hol); have D5 := hid (show Below E0.heap.size E0 y8 from D4.out.trans (hb5.mono D4.out.size)); clear hol hb5)))
      all_goals (
        obtain ⟨an, cn, hvn, _⟩ := OM.out.items
        obtain rfl : vn = .slice an 0 cn := hvn
        have H9 := hid (H8.out.low D5.out)
        have B9 := hid (B6.out.trans (D5.out.mono B6.out.size))
        obtain ⟨_, _, _, e0, e1, e2, e3⟩ := T4
        have f1 := H9.out.c1
        have f2 := H9.out.c2
        have f3 := H9.out.c3
        have ME := hid (fun W => match_any evT t W)
        rw [mt_every] at ME
        have MX := hid (fun W => match_any (t.1, sEq, t.2.1, t.2.2) t W)
        rw [mt_exact] at MX
        have MW := hid (fun W => match_any (t.1, sEq, t.2.1 ++ ⟨#[120]⟩, ⟨#[]⟩) t W)
        rw [show mt (t.1, sEq, t.2.1 ++ ⟨#[120]⟩, ⟨#[]⟩) t = false from mt_wrong t] at MW
        simp only [ov, tv, evT, sEq] at ME MX MW
        clear T0 T0a T1 T3 D1 D5 B6 H8 OM OW3 X1 X3 HF CLN
        go_wp2_with fail)
      all_goals (
        refine (ME.out _).mono ?_
        rintro e y9 ⟨rfl, hb9⟩
        have H10 := hid (H9.out.low hb9)
        have B10 := hid (B9.out.trans (hb9.mono B9.out.size))
        clear hb9 H9 B9 e0 e1 e2 e3 f1 f2 f3
        have f1 := H10.out.c1
        have f2 := H10.out.c2
        have f3 := H10.out.c3
        have hw10 := H10.out.lt
        go_wp2_with fail)
      all_goals (
        have B11 := hid ((B10.out.alloc B10.out.size (.cells #[.string t.1, .string ⟨#[69, 113, 117, 97, 108]⟩, .string t.2.1, .string t.2.2] 25)).alloc (by have := B10.out.size; simp; omega) (.cells #[.string t.1, .string ⟨#[69, 113, 117, 97, 108]⟩, .string (t.2.1 ++ ⟨#[120]⟩), .string ⟨#[]⟩] 25))
        have H11 := hid ((H10.out.low (belowA y9 (.cells #[.string t.1, .string ⟨#[69, 113, 117, 97, 108]⟩, .string t.2.1, .string t.2.2] 25))).low (belowA _ (.cells #[.string t.1, .string ⟨#[69, 113, 117, 97, 108]⟩, .string (t.2.1 ++ ⟨#[120]⟩), .string ⟨#[]⟩] 25)))
        obtain ⟨e0, e1, e2, e3⟩ := four_new (y9.alloc (.cells #[.string t.1, .string ⟨#[69, 113, 117, 97, 108]⟩, .string t.2.1, .string t.2.2] 25)) (.string t.1) (.string ⟨#[69, 113, 117, 97, 108]⟩) (.string (t.2.1 ++ ⟨#[120]⟩)) (.string ⟨#[]⟩) 25
        rw [World.size_alloc] at e0 e1 e2 e3
        have hz11 : y9.heap.size + 1 < ((y9.alloc (.cells #[.string t.1, .string ⟨#[69, 113, 117, 97, 108]⟩, .string t.2.1, .string t.2.2] 25)).alloc (.cells #[.string t.1, .string ⟨#[69, 113, 117, 97, 108]⟩, .string (t.2.1 ++ ⟨#[120]⟩), .string ⟨#[]⟩] 25)).heap.size := by simp
        clear B10 H10 f1 f2 f3
        generalize (y9.alloc (.cells #[.string t.1, .string ⟨#[69, 113, 117, 97, 108]⟩, .string t.2.1, .string t.2.2] 25)).alloc (.cells #[.string t.1, .string ⟨#[69, 113, 117, 97, 108]⟩, .string (t.2.1 ++ ⟨#[120]⟩), .string ⟨#[]⟩] 25) = E1 at *
        refine (MX.out _).mono ?_
        rintro e y10 ⟨rfl, hb⟩
        have g0 := (hb.cell (p := ⟨y9.heap.size + 1, 0, none⟩) hz11).trans e0
        have g1 := (hb.cell (p := ⟨y9.heap.size + 1, 1, none⟩) hz11).trans e1
        have g2 := (hb.cell (p := ⟨y9.heap.size + 1, 2, none⟩) hz11).trans e2
        have g3 := (hb.cell (p := ⟨y9.heap.size + 1, 3, none⟩) hz11).trans e3
        have H12 := hid (H11.out.low hb)
        have B12 := hid (B11.out.trans (hb.mono B11.out.size))
        have f1 := H12.out.c1
        have f2 := H12.out.c2
        have f3 := H12.out.c3
        clear hb e0 e1 e2 e3 B11 H11
        go_wp2_with fail
        refine (MW.out _).mono ?_
        rintro e y11 ⟨rfl, hb⟩
        have B13 := hid (B12.out.trans (hb.mono B12.out.size))
        clear hb B12 H12
        go_wp2_with fail
        go_ret
        exact ⟨rfl, B13.out⟩)
end Go.Proofs.YtppblibcbjpfnaaDoor.L
