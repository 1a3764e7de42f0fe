import Derived.Test.YtcldglilhhhdoaaGreatDoorMgAF
import Derived.Test.YtcldglilhhhdoaaGreatDoorMgAC
import Derived.WideShapes
import Derived.Test.YtcldglilhhhdoaaGreatDoorMgAE
namespace Go.Proofs.YtcldglilhhhdoaaGreatDoor.L
open Go.RowKit
set_option linter.unusedVariables false
set_option maxHeartbeats 4000000
set_option maxRecDepth 100000
end Go.Proofs.YtcldglilhhhdoaaGreatDoor.L
namespace Go.Proofs.YtcldglilhhhdoaaGreatDoor.L
open Go.RowKit
set_option linter.unusedVariables false
/-- A list of numbers that can be read. -/
def RdI (w : World) (a : Option Addr) (zs : List Int) : Prop := zs.length = 0 ∨ ∃ b off, a = some ⟨b, off, none⟩ ∧ b < w.heap.size ∧ ∀ j, j < zs.length → w.cell? ⟨b, off + j, none⟩ = some (.int .i64 (zs.getD j 0))
theorem RdI.low {w w' : World} {a : Option Addr} {zs : List Int} (h : RdI w a zs) {B : Nat} (k : Below B w w') (hB : w.heap.size ≤ B) : RdI w' a zs := by
  rcases h with h | ⟨b, off, rfl, h2, h3⟩
  · exact Or.inl h
  · exact Or.inr ⟨b, off, rfl, Nat.lt_of_lt_of_le h2 k.size, fun j hj => (k.cell (p := ⟨b, off + j, none⟩) (Nat.lt_of_lt_of_le h2 hB)).trans (h3 j hj)⟩
/-- A list of parts that can be read, with its lists of kids. -/
def PL (w : World) (a : Option Addr) (T : List Pt) : Prop := T.length = 0 ∨ ∃ b off, a = some ⟨b, off, none⟩ ∧ b < w.heap.size ∧ ∀ j, j < T.length → ∃ ka kc,
  w.cell? ⟨b, off + j * 4, none⟩ = some (.int .i64 (pt T j).kind) ∧ w.cell? ⟨b, off + j * 4 + 1, none⟩ = some (.string (pt T j).text) ∧ w.cell? ⟨b, off + j * 4 + 2, none⟩ = some (.int .i64 (pt T j).num) ∧
  w.cell? ⟨b, off + j * 4 + 3, none⟩ = some (.slice ka (pt T j).kids.length kc) ∧ RdI w ka (pt T j).kids
theorem PL.low {w w' : World} {a : Option Addr} {T : List Pt} (h : PL w a T) (k : Below w.heap.size w w') : PL w' a T := by
  rcases h with h | ⟨b, off, rfl, h2, h3⟩
  · exact Or.inl h
  · refine Or.inr ⟨b, off, rfl, Nat.lt_of_lt_of_le h2 k.size, fun j hj => ?_⟩
    obtain ⟨ka, kc, c0, c1, c2, c3, r⟩ := h3 j hj
    exact ⟨ka, kc, (k.cell (p := ⟨b, off + j * 4, none⟩) h2).trans c0, (k.cell (p := ⟨b, off + j * 4 + 1, none⟩) h2).trans c1, (k.cell (p := ⟨b, off + j * 4 + 2, none⟩) h2).trans c2, (k.cell (p := ⟨b, off + j * 4 + 3, none⟩) h2).trans c3, r.low k (Nat.le_refl _)⟩
/-- A row of numbers of one's own. -/
abbrev OwnI (w : World) (base : Nat) (v : Value) (zs : List Int) : Prop := w.ownsRow base 3 1 v zs.length (zs.map (Value.int .i64))
theorem info3 : (Tryz.prog.info? 3).map (fun i => (i.zero, i.size, i.bytes)) = some (some (.int .i64 0), 1, 8) := by kernel_rfl
theorem own_form {w : World} {base : Nat} {v : Value} {zs : List Int} (h : OwnI w base v zs) : ∃ a cap, v = .slice a zs.length cap := by
  rcases h.2 with ⟨e, n0⟩ | ⟨g, cap, cur, e, _⟩
  · exact ⟨none, 0, by rw [e, n0]⟩
  · exact ⟨_, _, e⟩
theorem own_low {w w' : World} {base : Nat} {v : Value} {zs : List Int} (h : OwnI w base v zs) (hk : Below w.heap.size w w') : OwnI w' base v zs :=
  World.ownsRow.kept (row := none) h ⟨hk.os, hk.tape, hk.output, hk.size, fun k hkl _ => hk.block k hkl⟩ (by cases v.ownBlock <;> simp)
theorem own_block {w : World} {base : Nat} {v : Value} {zs : List Int} (h : OwnI w base v zs) : ∀ k, v.ownBlock = some k → base ≤ k ∧ k < w.heap.size := by
  intro k hk
  rcases h.2 with ⟨e, n0⟩ | ⟨g, cap, cur, e, hb, hg, _⟩
  · rw [e] at hk; cases hk
  · rw [e] at hk
    simp [Value.ownBlock] at hk
    subst hk
    exact ⟨hb, lt_blk hg⟩
/-- An own row, read from any place on. -/
theorem own_rd {w : World} {base : Nat} {a : Option Addr} {n cap : Nat} {zs : List Int} (h : OwnI w base (.slice a n cap) zs) (k : Nat) (hk : k ≤ zs.length) : n = zs.length ∧ (zs.length = 0 ∨ ∃ g, a = some ⟨g, 0, none⟩ ∧ base ≤ g ∧ g < w.heap.size ∧ zs.length ≤ cap ∧ (∀ j, j < zs.length → w.cell? ⟨g, j, none⟩ = some (.int .i64 (zs.getD j 0))) ∧ RdI w (some ⟨g, k, none⟩) (zs.drop k)) := by
  rcases h.2 with ⟨e, n0⟩ | ⟨g, cap', cur, e, hb, hg, h3, h4, h5, h6⟩
  · injection e with e1 e2 e3
    exact ⟨by omega, .inl n0⟩
  · injection e with e1 e2 e3
    subst e1 e2 e3
    refine ⟨rfl, .inr ⟨g, rfl, hb, lt_blk hg, h3, ?_⟩⟩
    have key : ∀ j, j < zs.length → w.cell? ⟨g, j, none⟩ = some (.int .i64 (zs.getD j 0)) := by
      intro j hj
      rw [cell_of_row w g j _ _ _ hg]
      have := congrArg (fun l => l[j]?) h6
      simp only [List.getElem?_take_of_lt (show j < zs.length * 1 by omega), List.getElem?_map] at this
      rw [Array.getElem?_toList] at this
      rw [this, List.getElem?_eq_getElem hj, List.getD_eq_getElem?_getD, List.getElem?_eq_getElem hj]
      rfl
    refine ⟨key, .inr ⟨g, k, rfl, lt_blk hg, fun j hj => ?_⟩⟩
    rw [List.length_drop] at hj
    rw [key (k + j) (by omega), List.getD_eq_getElem?_getD, List.getD_eq_getElem?_getD, List.getElem?_drop]
end Go.Proofs.YtcldglilhhhdoaaGreatDoor.L
namespace Go.Proofs.YtcldglilhhhdoaaGreatDoor.L
open Go.RowKit
set_option linter.unusedVariables false
theorem cells4 {W : World} {N : Nat} {a b c d : Value} {ty : TypeId} (h : W.heap[N]? = some (.cells #[a, b, c, d] ty (0, 0))) : W.cell? ⟨N, 0, none⟩ = some a ∧ W.cell? ⟨N, 1, none⟩ = some b ∧ W.cell? ⟨N, 2, none⟩ = some c ∧ W.cell? ⟨N, 3, none⟩ = some d := by
  refine ⟨?_, ?_, ?_, ?_⟩ <;> (unfold World.cell?; rw [h]; rfl)
end Go.Proofs.YtcldglilhhhdoaaGreatDoor.L
namespace Go.Proofs.YtcldglilhhhdoaaGreatDoor.L
open Go.RowKit
set_option linter.unusedVariables false
end Go.Proofs.YtcldglilhhhdoaaGreatDoor.L
namespace Go.Proofs.YtcldglilhhhdoaaGreatDoor.L
open Go.RowKit
set_option linter.unusedVariables false
end Go.Proofs.YtcldglilhhhdoaaGreatDoor.L
namespace Go.Proofs.YtcldglilhhhdoaaGreatDoor.L
open Go.RowKit
set_option linter.unusedVariables false
theorem append_src {w : World} {ops : Array Oper} {rest : List Oper} {o : Oper} {a : Act} {Q : Exit → Act → World → Prop} (hgd : o.guard = none) (s x : Operand)
    (ho : o.op = .call { callee := .builtin .append, args := #[s, x], argTypes := #[26, 26] })
    (base : Nat) (v : Value) (zs : List Int) (hs : a.eval s = v) (hown : OwnI w base v zs) (xa : Option Addr) (n xc : Nat) (ys : List Int) (hn : n = ys.length) (hx : a.eval x = .slice xa n xc) (hno : xa = none → xc = 0) (hsrc : RdI w xa ys) (hbound : zs.length + ys.length ≤ 17592186044000) (hbase : base ≤ w.heap.size)
    (h : ∀ v'' w', OwnI w' base v'' (zs ++ ys) → w.grownBy w' v.ownBlock → wpList Tryz.prog ops Q rest (a.put o.dst v'') w') : wpList Tryz.prog ops Q (o :: rest) a w := by
  obtain ⟨i0, hi, hz0, hz1, hz2⟩ := info_parts info3
  subst hn
  cases xa with
  | none =>
    have hl : ys.length = 0 := by
      rcases hsrc with h | ⟨b, off, e, _⟩
      · exact h
      · cases e
    have he : ys = [] := List.length_eq_zero_iff.1 hl
    subst he
    rw [hno rfl] at hx
    refine wpList_append_own_none hgd s x 26 ho base 3 i0 1 Tryz.underlying26 hi v _ _ hs hown hx ?_
    exact h v w (by rw [List.append_nil]; exact hown) ⟨rfl, rfl, rfl, Nat.le_refl _, fun _ _ _ => rfl⟩
  | some ad =>
    refine wpList_append_own w hgd s x 26 ho base 3 i0 (.int .i64 0) 1 8 Tryz.underlying26 hi hz0 hz1 hz2 rfl (by decide) v _ _ hs hown ad ys.length xc (ys.map (Value.int .i64)) hx (by simp) ?_ (by intro u hu; simp at hu; obtain ⟨z, _, rfl⟩ := hu; rfl) (by unfold maxLen; omega) (by omega) hbase ?_
    · intro j u hu
      rw [List.getElem?_map] at hu
      by_cases hj : j < ys.length
      · rw [List.getElem?_eq_getElem hj] at hu
        cases hu
        rcases hsrc with h0 | ⟨b, off, e, hb, hc⟩
        · omega
        · cases e
          have := hc j hj
          rw [List.getD_eq_getElem?_getD, List.getElem?_eq_getElem hj] at this
          rw [Go.WideShapes.add_plain]
          exact this
      · rw [List.getElem?_eq_none (by omega)] at hu
        cases hu
    · intro v'' w' ho' hg _
      refine h v'' w' ?_ hg
      unfold OwnI
      rw [List.length_append, List.map_append]
      exact ho'
theorem own_rdI {w : World} {base : Nat} {a : Option Addr} {n cap : Nat} {zs : List Int} (h : OwnI w base (.slice a n cap) zs) : n = zs.length ∧ RdI w a zs ∧ (a = none → cap = 0) := by
  rcases h.2 with ⟨e, n0⟩ | ⟨g, cap', cur, e, hb, hg, h3, h4, h5, h6⟩
  · injection e with e1 e2 e3
    exact ⟨by omega, .inl n0, fun _ => e3⟩
  · obtain ⟨h1, h2⟩ := own_rd h 0 (Nat.zero_le _)
    injection e with e1 e2 e3
    subst e1
    refine ⟨h1, ?_, fun e => by cases e⟩
    rcases h2 with h2 | ⟨g', e', _, _, _, _, r⟩
    · exact .inl h2
    · cases e'
      exact r
end Go.Proofs.YtcldglilhhhdoaaGreatDoor.L
namespace Go.Proofs.YtcldglilhhhdoaaGreatDoor.L
open Go.RowKit Go.Shelf
set_option linter.unusedVariables false
/-- A list of parts that can be read, whose empty lists of kids have no room. -/
def PLs (w : World) (a : Option Addr) (T : List Pt) : Prop := T.length = 0 ∨ ∃ b off, a = some ⟨b, off, none⟩ ∧ b < w.heap.size ∧ ∀ j, j < T.length → ∃ ka kc,
  w.cell? ⟨b, off + j * 4, none⟩ = some (.int .i64 (pt T j).kind) ∧ w.cell? ⟨b, off + j * 4 + 1, none⟩ = some (.string (pt T j).text) ∧ w.cell? ⟨b, off + j * 4 + 2, none⟩ = some (.int .i64 (pt T j).num) ∧
  w.cell? ⟨b, off + j * 4 + 3, none⟩ = some (.slice ka (pt T j).kids.length kc) ∧ RdI w ka (pt T j).kids ∧ (ka = none → kc = 0)
theorem PLs.pl {w : World} {a : Option Addr} {T : List Pt} (h : PLs w a T) : PL w a T := by
  rcases h with h | ⟨b, off, rfl, h2, h3⟩
  · exact Or.inl h
  · refine Or.inr ⟨b, off, rfl, h2, fun j hj => ?_⟩
    obtain ⟨ka, kc, a0, a1, a2, a3, a4, _⟩ := h3 j hj
    exact ⟨ka, kc, a0, a1, a2, a3, a4⟩
/-- The cells of the first k parts, with the lists ks. -/
def CP (T : List Pt) (ks : Nat → Value) : Nat → List Value
  | 0 => []
  | k + 1 => CP T ks k ++ [.int .i64 (pt T k).kind, .string (pt T k).text, .int .i64 (pt T k).num, ks k]
theorem CP_len (T : List Pt) (ks : Nat → Value) : ∀ k, (CP T ks k).length = k * 4
  | 0 => rfl
  | k + 1 => by
    simp only [CP, List.length_append, CP_len T ks k, List.length_cons, List.length_nil]
    omega
theorem CP_congr (T : List Pt) {ks ks' : Nat → Value} : ∀ {k : Nat}, (∀ j, j < k → ks j = ks' j) → CP T ks k = CP T ks' k
  | 0, _ => rfl
  | k + 1, h => by
    simp only [CP]
    rw [CP_congr T (k := k) (fun j hj => h j (by omega)), h k (by omega)]
theorem CP_get (T : List Pt) (ks : Nat → Value) (j r : Nat) (hr : r < 4) : ∀ {k : Nat}, j < k → (CP T ks k)[j * 4 + r]? = [.int .i64 (pt T j).kind, .string (pt T j).text, .int .i64 (pt T j).num, ks j][r]?
  | k + 1, h => by
    simp only [CP]
    by_cases e : j < k
    · rw [List.getElem?_append_left (by rw [CP_len]; omega)]
      exact CP_get T ks j r hr e
    · have : j = k := by omega
      subst this
      rw [List.getElem?_append_right (by rw [CP_len]; omega), CP_len]
      congr 1
      omega
/-- A tree of one's own: a row of parts, each with a row of kids. -/
structure OwnP (W : World) (base : Nat) (v : Value) (T : List Pt) (ks : Nat → Value) (k : Nat) : Prop where
  row : W.ownsRow base 46 4 v k (CP T ks k)
  kids : ∀ j, j < k → OwnI W base (ks j) (pt T j).kids
theorem OwnP.pl {W : World} {base : Nat} {v : Value} {T : List Pt} {ks : Nat → Value} (h : OwnP W base v T ks T.length) : ∃ a cap, v = .slice a T.length cap ∧ PLs W a T := by
  rcases h.row.2 with ⟨rfl, n0⟩ | ⟨g, cap, cur, rfl, hb, hg, h3, h4, h5, h6⟩
  · exact ⟨none, 0, by rw [n0], Or.inl n0⟩
  · refine ⟨_, _, rfl, Or.inr ⟨g, 0, rfl, lt_blk hg, fun j hj => ?_⟩⟩
    have key : ∀ r, r < 4 → W.cell? ⟨g, j * 4 + r, none⟩ = [.int .i64 (pt T j).kind, .string (pt T j).text, .int .i64 (pt T j).num, ks j][r]? := by
      intro r hr
      rw [cell_of_row W g _ _ _ _ hg, ← CP_get T ks j r hr hj, ← h6, List.getElem?_take_of_lt (by omega), Array.getElem?_toList]
    have hk := h.kids j hj
    obtain ⟨ka, kc, e⟩ := own_form hk
    rw [e] at hk
    obtain ⟨_, r1, r2⟩ := own_rdI hk
    refine ⟨ka, kc, ?_, ?_, ?_, ?_, r1, r2⟩
    · rw [Nat.zero_add]; exact key 0 (by decide)
    · rw [Nat.zero_add]; exact key 1 (by decide)
    · rw [Nat.zero_add]; exact key 2 (by decide)
    · rw [Nat.zero_add, ← e]; exact key 3 (by decide)
theorem OwnP.low {W W' : World} {base : Nat} {v : Value} {T : List Pt} {ks : Nat → Value} {k : Nat} (h : OwnP W base v T ks k) (hk : Below W.heap.size W W') : OwnP W' base v T ks k :=
  ⟨World.ownsRow.kept (row := none) h.row ⟨hk.os, hk.tape, hk.output, hk.size, fun k hkl _ => hk.block k hkl⟩ (by cases v.ownBlock <;> simp), fun j hj => own_low (h.kids j hj) hk⟩
theorem row_ne {W : World} {b b' s s' n n' : Nat} {e e' : TypeId} {v v' : Value} {xs ys : List Value} (h : W.ownsRow b e s v n xs) (h' : W.ownsRow b' e' s' v' n' ys) (hne : e ≠ e') : v.ownBlock = none ∨ v.ownBlock ≠ v'.ownBlock := by
  rcases h.2 with ⟨rfl, _⟩ | ⟨g, cap, cur, rfl, _, hg, _⟩
  · exact .inl rfl
  · right
    intro e1
    rcases h'.2 with ⟨rfl, _⟩ | ⟨g', cap', cur', rfl, _, hg', _⟩
    · cases e1
    · have : g = g' := by simpa [Value.ownBlock] using e1
      subst this
      rw [hg] at hg'
      have := Option.some.inj hg'
      simp at this
      exact hne this.2
/-- One part more, behind an append. -/
theorem OwnP.more {W W' : World} {base : Nat} {v v' : Value} {T : List Pt} {ks : Nat → Value} {k : Nat} {x : Value} (h : OwnP W base v T ks k) (hx : OwnI W base x (pt T k).kids)
    (hr : W'.ownsRow base 46 4 v' (k + 1) (CP T ks k ++ [.int .i64 (pt T k).kind, .string (pt T k).text, .int .i64 (pt T k).num, x])) (hg : W.grownBy W' v.ownBlock) : OwnP W' base v' T (fun j => if j = k then x else ks j) (k + 1) := by
  refine ⟨?_, fun j hj => ?_⟩
  · have e : CP T (fun j => if j = k then x else ks j) (k + 1) = CP T ks k ++ [.int .i64 (pt T k).kind, .string (pt T k).text, .int .i64 (pt T k).num, x] := by
      simp only [CP, if_true]
      rw [CP_congr T (ks' := ks) (fun j hj => by simp [Nat.ne_of_lt hj])]
    rw [e]
    exact hr
  · by_cases hjk : j = k
    · subst hjk
      simp only [if_true]
      exact World.ownsRow.kept hx hg (row_ne hx h.row (by decide))
    · simp only [hjk, if_false]
      exact World.ownsRow.kept (h.kids j (by omega)) hg (row_ne (h.kids j (by omega)) h.row (by decide))
theorem infoP : (Tryz.prog.info? 46).map (fun i => (i.zero, i.size, i.bytes)) = some (some (.agg #[.int .i64 0, .string ByteArray.empty, .int .i64 0, .slice none 0 0]), 4, 56) := by kernel_rfl
theorem cell_four_new (w : World) (a b c d : Value) (t : TypeId) : ∀ (j : Nat) (u : Value), [a, b, c, d][j]? = some u → (w.alloc (.cells #[a, b, c, d] t)).cell? ((⟨w.heap.size, 0, none⟩ : Addr).add j) = some u := by
  intro j u h
  rw [Go.WideShapes.add_plain]
  rw [cell_of_row (w.alloc (.cells #[a, b, c, d] t)) w.heap.size (0 + j) _ _ _ (heap_alloc_new w _)]
  simpa using h
end Go.Proofs.YtcldglilhhhdoaaGreatDoor.L
namespace Go.Proofs.YtcldglilhhhdoaaGreatDoor.L
open Go.RowKit Go.Shelf
set_option linter.unusedVariables false
theorem bt_head (t : ByteArray) (l : List UInt8) (h : t.data.toList = l) (c : UInt8) (hc : c ≠ 0) : (bt t 0 == c) = decide (l.head? = some c) := by
  unfold bt
  rw [h]
  cases l with
  | nil => simp; exact fun e => hc e.symm
  | cons x r =>
    show (x == c) = _
    cases e : (x == c)
    · exact (decide_eq_false (by simpa using e)).symm
    · exact (decide_eq_true (by simpa using e)).symm
set_option maxHeartbeats 4000000 in
theorem number_any (t : ByteArray) (w : World) (hs : t.size ≤ 4096) (h43 : bt t 0 ≠ 43) (h0 : t.size ≠ 0) (hd : dgs t ≠ []) (hv : Vars w) :
    Calls Tryz.prog 98 #[.string t] w fun e w' => NumIs (numS t) w e w' := by
  have HC := hid (fun W => scutp_any t W hs)
  have HH := hid (fun W => shasp_any (dgT t) 48 W (Nat.le_trans (dgT_size t) hs) (by decide))
  rw [bt_head (dgT t) (dgs t) (dgT_list t) 48 (by decide)] at HH
  have hl : (dgT t).toList = dgs t := by rw [ByteArray.toList_eq, dgT_list]
  have hz : (dgT t).size = (dgs t).length := by rw [← dgT_list]; simp
  have AN := hid (atoi_num t h0 h43 hd)
  have AO := hid (fun (n : Int) (h : Lib.atoiAll t.data.toList = .ok n) (W : World) => atoi_ok t hs n h W)
  have AB := hid (fun (h : ∀ n, Lib.atoiAll t.data.toList ≠ .ok n) => atoi_bad t hs h w hv)
  obtain ⟨R, hR⟩ : ∃ R, numS t = R := ⟨_, rfl⟩
  rw [hR]
  unfold numS at hR
  generalize dgT t = D at *
  generalize dgs t = L at *
  clear h43
  by_cases c1 : L = [48]
  · rw [if_pos c1] at hR
    subst c1
    have e1 : (([48] : List UInt8) == [48]) = true := by decide
    by_cases c45 : bt t 0 = 45
    · rw [if_pos c45] at hR
      rw [show (bt t 0 == 45) = true by simpa using c45] at HC
      subst hR
      go_enter Tryz.func98, Tryz.ntmps98
      go_wp2_with (go_at_call 109; refine (HC.out _).mono ?_; rintro e w1 ⟨rfl, hww⟩; have hw2 := hww.symm; clear hww; subst hw2)
      go_ret2
      exact ⟨_, rfl, Below.refl _ _⟩
    · rw [if_neg c45] at hR
      rw [show (bt t 0 == 45) = false by simpa using c45] at HC
      subst hR
      go_enter Tryz.func98, Tryz.ntmps98
      go_wp2_with (go_at_call 109; refine (HC.out _).mono ?_; rintro e w1 ⟨rfl, hww⟩; have hw2 := hww.symm; clear hww; subst hw2)
      go_ret2
      exact ⟨rfl, Below.refl _ _⟩
  · rw [if_neg c1] at hR
    generalize (bt t 0 == 45) = m at *
    have e1 : (L == [48]) = false := by simpa using c1
    have e1' : ([48] == L) = false := by simpa using fun e : [48] = L => c1 e.symm
    by_cases c2 : 18 < L.length
    · rw [if_pos (Or.inl c2)] at hR
      subst hR
      have c2' : (18 : Int) < L.length := by omega
      go_enter Tryz.func98, Tryz.ntmps98
      go_wp2_with (go_at_call 109; refine (HC.out _).mono ?_; rintro e w1 ⟨rfl, hww⟩; have hw2 := hww.symm; clear hww; subst hw2)
      go_ret2
      exact ⟨_, rfl, Below.refl _ _⟩
    · have c2' : ¬ (18 : Int) < L.length := by omega
      by_cases c3 : L.head? = some 48
      · rw [if_pos (Or.inr (Or.inl c3))] at hR
        subst hR
        rw [decide_eq_true c3] at HH
        go_enter Tryz.func98, Tryz.ntmps98
        go_wp2_with (first | (go_at_call 109; refine (HC.out _).mono ?_; rintro e w1 ⟨rfl, hww⟩; have hw2 := hww.symm; clear hww; subst hw2) | (go_at_call 110; refine (HH.out _).mono ?_; rintro e w1 ⟨rfl, hww⟩; have hw2 := hww.symm; clear hww; subst hw2))
        go_ret2
        exact ⟨_, rfl, Below.refl _ _⟩
      · rw [decide_eq_false c3] at HH
        have AN2 := hid (AN.out (by omega))
        cases c4 : allD L
        · rw [if_pos (Or.inr (Or.inr (Or.inr c4)))] at hR
          subst hR
          have HA := hid (AB.out (AN2.out.2 c4))
          clear AN AN2 AO AB
          go_enter Tryz.func98, Tryz.ntmps98
          go_wp2_with (first | (go_at_call 109; refine (HC.out _).mono ?_; rintro e w1 ⟨rfl, hww⟩; have hw2 := hww.symm; clear hww; subst hw2) | (go_at_call 110; refine (HH.out _).mono ?_; rintro e w1 ⟨rfl, hww⟩; have hw2 := hww.symm; clear hww; subst hw2) | (go_at_call 111; refine HA.out.mono ?_; rintro e w1 ⟨n, ty, N, rfl, l1⟩; have L1 := hid l1; clear l1))
          go_quiet (fail)
          go_wp2
          go_ret2
          exact ⟨_, rfl, below_drewN L1.out _⟩
        · rw [if_neg (by rw [c4]; simp [hd, c3]; omega)] at hR
          subst hR
          have HA := hid (fun W => AO.out _ (AN2.out.1 c4) W)
          clear AN AN2 AO AB
          generalize (if bt t 0 = 45 then -(valF 0 L : Int) else (valF 0 L : Int)) = n at *
          go_enter Tryz.func98, Tryz.ntmps98
          go_wp2_with (first | (go_at_call 109; refine (HC.out _).mono ?_; rintro e w1 ⟨rfl, hww⟩; have hw2 := hww.symm; clear hww; subst hw2) | (go_at_call 110; refine (HH.out _).mono ?_; rintro e w1 ⟨rfl, hww⟩; have hw2 := hww.symm; clear hww; subst hw2) | (go_at_call 111; refine (HA.out _).mono ?_; rintro e w1 ⟨rfl, l1⟩; have L1 := hid l1; clear l1))
          go_quiet (fail)
          go_wp2
          go_ret2
          exact ⟨rfl, below_drewN L1.out _⟩
end Go.Proofs.YtcldglilhhhdoaaGreatDoor.L
