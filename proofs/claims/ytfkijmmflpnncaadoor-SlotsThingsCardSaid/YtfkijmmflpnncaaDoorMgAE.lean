import Derived.Test.YtfkijmmflpnncaaDoorMgAD
import Derived.Test.YtfkijmmflpnncaaDoorRows
import Derived.Test.YtfkijmmflpnncaaDoorTie
import Derived.Test.YtfkijmmflpnncaaDoorCards
import Derived.Deep.Slices
import Derived.ProofKit
import Derived.LaidMore
import Derived.LaidSub
import Derived.OpenShut
import Derived.SizedLaws
import Derived.Deep.DeepHandedRow
import Derived.Lib.SmallJoins
import Derived.Lib.LaidTab
import Derived.SevenTiedAt
import Derived.Lay
namespace Go.Proofs.YtfkijmmflpnncaaDoor.L
open Go.RowKit Bs Go.Maps
set_option linter.unusedVariables false
/-- One call of a script. -/
structure Opd where
  k : Int
  a : Int
  t : Int
  s : ByteArray
  v : Int
deriving Inhabited
def ItemsO (w : World) (val : Value) (os : List Opd) : Prop := ∃ a cap, val = .slice a os.length cap ∧ (os.length = 0 ∨ ∃ b off, a = some ⟨b, off, none⟩ ∧ b < w.heap.size ∧ ∀ j (hj : j < os.length),
  w.cell? ⟨b, off + j * 5, none⟩ = some (.int .i64 os[j].k) ∧ w.cell? ⟨b, off + j * 5 + 1, none⟩ = some (.int .i64 os[j].a) ∧ w.cell? ⟨b, off + j * 5 + 2, none⟩ = some (.int .i64 os[j].t) ∧ w.cell? ⟨b, off + j * 5 + 3, none⟩ = some (.string os[j].s) ∧ w.cell? ⟨b, off + j * 5 + 4, none⟩ = some (.int .i64 os[j].v))
def GoodO (os : List Opd) : Prop := os.length ≤ maxLen ∧ ∀ o ∈ os, o.s.size ≤ maxLen
theorem none_bad {m : Nat} {l : List Rw} {s : ByteArray} (h : OkS m l) (hb : badB s = true) : NoN l s := fun i hi e => by
  have h1 := isT_iff.1 hi
  have h2 := h.sz i
  rw [e] at h1 h2
  unfold badB at hb
  rw [Bool.or_eq_true, decide_eq_true_iff, decide_eq_true_iff] at hb
  omega
theorem put_err (p m : Nat) (l : List Rw) (F : List Nat) (s : ByteArray) (v : Int) (w : World) (h : Tb w p m l F) (hs : s.size ≤ maxLen) (he : badB s = true ∨ (∃ i, isT l i = true ∧ nm l i = s) ∨ cnt l = m) : Calls Tryd.prog 27 #[.pointer (some ⟨p, 0, none⟩), .string s, .int .i64 v] w fun e w' => ∃ c : Int, e = .returned (.tuple #[.int .i64 0, .int .i64 c]) ∧ (c == 0) = false ∧ ∃ n, w' = w.drewN n := by
  cases hb : badB s
  · rcases there_or l s with hn | ⟨i, hi, hn⟩
    · have hc : cnt l = m := by
        rcases he with c | ⟨i, hi, e⟩ | c
        · rw [hb] at c; cases c
        · exact absurd e (hn i hi)
        · exact c
      refine (put_full p m l F s v w h hb hn hc).mono ?_
      rintro e w' ⟨rfl, hw⟩
      exact ⟨53, rfl, rfl, hw⟩
    · refine (put_there p m i l F s v w h hb hi hn).mono ?_
      rintro e w' ⟨rfl, hw⟩
      exact ⟨52, rfl, rfl, 0, hw⟩
  · refine (put_bad p s v w hs hb).mono ?_
    rintro e w' ⟨rfl, hw⟩
    exact ⟨51, rfl, rfl, 0, hw⟩
theorem drop_err (p m : Nat) (l : List Rw) (F : List Nat) (s : ByteArray) (w : World) (h : Tb w p m l F) (hs : s.size ≤ maxLen) (hn : NoN l s) : Calls Tryd.prog 28 #[.pointer (some ⟨p, 0, none⟩), .string s] w fun e w' => ∃ c : Int, e = .returned (.tuple #[.int .i64 0, .int .i64 c]) ∧ (c == 0) = false ∧ w' = w := by
  cases hb : badB s
  · refine (drop_no p m l F s w h hb hn).mono ?_
    rintro e w' ⟨rfl, hw⟩
    exact ⟨54, rfl, rfl, hw⟩
  · refine (drop_bad p s w hs hb).mono ?_
    rintro e w' ⟨rfl, hw⟩
    exact ⟨51, rfl, rfl, hw⟩
theorem bad_there {m : Nat} {l : List Rw} (h : OkS m l) {i : Nat} (hi : isT l i = true) : badB (nm l i) = false := by
  cases e : badB (nm l i)
  · rfl
  · exact absurd rfl (none_bad h e i hi)
abbrev OwnI (w : World) (mb n : Nat) (D : DataW Unit) : Prop := w.ownsMap Tryd.prog 3 (plainElem Tryd.prog 3) mb n D
theorem keyI : Keyed Tryd.prog 3 := int_keyed Tryd.underlying3
theorem keyI_of {a : Int} (h : (Lit.int .i64 a).wf = true) : keyOf Tryd.prog 3 (.int .i64 a) = some (.int .i64 a) := keyOf_int_mk Tryd.underlying3 h
/-- Which slots are in use. -/
def InU (D : DataW Unit) (l : List Rw) : Prop := IsMap D ∧ ∀ i : Nat, D.atKey (.int .i64 (i : Int)) (.lit (.int .i64 0)) = .lit (.int .i64 (if isT l i then 1 else 0))
theorem kI_ne {a b : Nat} (h : a ≠ b) : (Lit.int .i64 (a : Int)) ≠ .int .i64 (b : Int) := fun e => by injection e with _ e; omega
theorem kI_key (a : Int) : WideAt.IsKeyLit (Lit.int .i64 a) := by simp [WideAt.IsKeyLit]
theorem InU.same {D : DataW Unit} {l l' : List Rw} (h : InU D l) (hn : ∀ j, nm l' j = nm l j) : InU D l' := ⟨h.1, fun i => by
  rw [h.2 i]
  have : isT l' i = isT l i := by unfold isT; rw [hn]
  rw [this]⟩
theorem InU.put {D : DataW Unit} {l l' : List Rw} (h : InU D l) (r : Nat) (b : Bool) (hr : isT l' r = b) (hn : ∀ j, j ≠ r → isT l' j = isT l j) : InU (D.put (.int .i64 (r : Int)) (.lit (.int .i64 (if b then 1 else 0)))) l' := ⟨h.1.put _ _, fun i => by
  by_cases e : i = r
  · subst e
    rw [Maps.atKey_put_same h.1 (kI_key _), hr]
  · rw [Maps.atKey_put_other (kI_ne e), h.2 i, hn i e]⟩
/-- What stands between two calls of the law. -/
structure LwI (w wr : World) (p b1 b2 k : Nat) (l : List Rw) (F : List Nat) (D1 D2 : DataW Unit) : Prop where
  tb : Tb wr p 40 l F
  o1 : Own1 wr b1 k D1
  m1 : MapOf D1 l
  o2 : OwnI wr b2 k D2
  u2 : InU D2 l
  fB : ∀ x ∈ F, w.heap.size ≤ x
  n1 : b1 ∉ F
  n2 : b2 ∉ F
  ne : b1 ≠ b2
  g1 : w.heap.size ≤ b1
  g2 : w.heap.size ≤ b2
  bl : Below w.heap.size w wr
  ta : Tab wr
  tz : 1 < w.heap.size
theorem LwI.step {w wr w2 : World} {p b1 b2 k k' : Nat} {l l2 : List Rw} {F F2 : List Nat} {D1 D2 : DataW Unit} (h : LwI w wr p b1 b2 k l F D1 D2) (ht : Tb w2 p 40 l2 F2) (hm : Mv F F2 wr w2) (hk : k ≤ k') (hc : cnt l2 = cnt l) (hn : ∀ j, nm l2 j = nm l j) : LwI w w2 p b1 b2 k' l2 F2 D1 D2 := by
  have s1 := h.o1.lt
  have s2 := h.o2.lt
  refine ⟨ht, (owns_stays h.o1 (hm.1.block b1 s1 h.n1)).mono hk, h.m1.same hc hn, (owns_stays h.o2 (hm.1.block b2 s2 h.n2)).mono hk, h.u2.same hn, hm.above h.bl.size h.fB, fun c => ?_, fun c => ?_, h.ne, h.g1, h.g2, h.bl.trans (hm.below h.bl.size h.fB), h.ta.mv hm h.tz h.fB, h.tz⟩
  · rcases hm.2 _ c with d | d
    · exact h.n1 d
    · omega
  · rcases hm.2 _ c with d | d
    · exact h.n2 d
    · omega
theorem LwI.alloc {w wr : World} {p b1 b2 k : Nat} {l : List Rw} {F : List Nat} {D1 D2 : DataW Unit} (h : LwI w wr p b1 b2 k l F D1 D2) (o : Obj) : LwI w (wr.alloc o) p b1 b2 k l F D1 D2 :=
  h.step (h.tb.low ((Below.refl _ _).alloc (Nat.le_refl _) _)) ⟨(Bx.refl _ _ _).alloc (Nat.le_refl _) _, fun k hk => Or.inl hk⟩ (Nat.le_refl _) rfl (fun _ => rfl)
theorem LwI.drewN {w wr : World} {p b1 b2 k : Nat} {l : List Rw} {F : List Nat} {D1 D2 : DataW Unit} (h : LwI w wr p b1 b2 k l F D1 D2) (n : Nat) : LwI w (wr.drewN n) p b1 b2 k l F D1 D2 :=
  h.step (h.tb.drewN n) (Mv.drewN F wr n) (Nat.le_refl _) rfl (fun _ => rfl)
end Go.Proofs.YtfkijmmflpnncaaDoor.L
namespace Go.Proofs.YtfkijmmflpnncaaDoor.L
open Go.ChangeShapes Go.WideShapes Go.ChangeAt Go.RowKit Go.Joins Go.ChangeMaps
set_option linter.unusedVariables false
theorem own : ownKnob Tryd.prog.godebug = none := by kernel_rfl
theorem laidOut : laidOutB Tryd.prog = true := by kernel_rfl
theorem cellsOp : Tryd.prog.cellsOf 39 = 5 := by kernel_rfl
theorem cells9 : Tryd.prog.cellsOf 9 = 1 := by kernel_rfl
theorem cells3 : Tryd.prog.cellsOf 3 = 1 := by kernel_rfl
theorem reach_num : reachBytes = 140737488351232 := by kernel_rfl
theorem readS : Tryd.prog.readableRec 22 = true := by kernel_rfl
theorem rowS : 22 < Tryd.prog.types.size := of_decide_eq_true (by kernel_rfl)
theorem lt_of_cell0 {w : World} {b o : Nat} {v : Value} (h : w.cell? ⟨b, o, none⟩ = some v) : b < w.heap.size := by
  apply Classical.byContradiction
  intro n
  have : w.heap[b]? = none := Array.getElem?_eq_none (by omega)
  simp [World.cell?, this] at h
theorem all_le {l : List Nat} {b : Nat} (h : l.all (fun x => decide (x ≤ b)) = true) {x : Nat} (hx : x ∈ l) : x ≤ b := by
  rw [List.all_eq_true] at h
  simpa using h x hx
theorem gTab : Tryd.prog.globalNamed "math/bits.deBruijn64tab" = some 1 := by kernel_rfl
theorem gTabType : (Tryd.prog.globals[1]?).map (·.type) = some 122 := by kernel_rfl
theorem cellsA : Tryd.prog.cellsOf 122 = 64 := by kernel_rfl
theorem cells5 : Tryd.prog.cellsOf 5 = 1 := by kernel_rfl
def tabInts : List Int := Lib.deBruijn64tab.map fun x : Nat => (x : Int)
theorem tab_is {W : World} (ht : Lib.TabIs Tryd.prog W "math/bits.deBruijn64tab" .u8 tabInts) : Tab W := by
  have e : tabInts.length = 64 := by decide
  have hc : ∀ k, k < 64 → W.cell? ⟨1, k, none⟩ = some (.int .u8 ((Lib.deBruijn64tab.getD k 0 : Nat) : Int)) := fun k hk => by
    rw [ht.cell gTab k (by omega)]
    simp [tabInts]
    cases Lib.deBruijn64tab[k]? <;> rfl
  refine ⟨?_, hc⟩
  have h0 := hc 0 (by decide)
  apply Classical.byContradiction
  intro n
  simp [World.cell?, Array.getElem?_eq_none (show W.heap.size ≤ 1 by omega)] at h0
/-- WHAT THE ROW's LIST GIVES: the table's cells hold its numbers. -/
theorem tab_of {W : World} (h : laidMetH Tryd.prog [("math/bits.deBruijn64tab", Rows.laid_math_bits_deBruijn64tab)] W) : Tab W :=
  tab_is (Lib.tabIs_of_head (rest := []) gTab gTabType Tryd.underlying122 Tryd.underlying5 cells5 cellsA h)
set_option maxRecDepth 100000 in
theorem op_cells {H : Type} {enc : TypeId × Value → H} {W : World} {fuel : Nat} {cl : List Value} {d : DataW H} {p : List MemPlace} (hf' : DataW.trod enc Tryd.prog W 0 (fun _ => true) true fuel 39 cl = some (d, p)) (hlen : cl.length = 5) :
    ∃ o : Opd, cl = [.int .i64 o.k, .int .i64 o.a, .int .i64 o.t, .string o.s, .int .i64 o.v] ∧ (o.s.size ≤ maxLen ∧ (Lit.int .i64 o.v).wf = true) := by
  obtain ⟨xs, k, hk, hxy, _, hxl, hfl⟩ := DataW.trod_struct Tryd.underlying39 hf'
  match xs, hxl, cl, hlen with
  | [y0, y1, y2, y3, y4], _, [v0, v1, v2, v3, v4], _ =>
    have g0 := hfl 0 _ rfl
    have g1 := hfl 1 _ rfl
    have g2 := hfl 2 _ rfl
    have g3 := hfl 3 _ rfl
    have g4 := hfl 4 _ rfl
    simp [cells9, cells3] at g0 g1 g2 g3 g4
    obtain ⟨k0, e0, _, w0⟩ := DataW.trod_int Tryd.underlying3 g0
    obtain ⟨k1, e1, _, w1⟩ := DataW.trod_int Tryd.underlying3 g1
    obtain ⟨k2, e2, _, w2⟩ := DataW.trod_int Tryd.underlying3 g2
    obtain ⟨s3, e3, _, w3⟩ := DataW.trod_string Tryd.underlying9 g3
    obtain ⟨k4, e4, _, w4⟩ := DataW.trod_int Tryd.underlying3 g4
    simp at e0 e1 e2 e3 e4
    subst e0 e1 e2 e3 e4
    exact ⟨⟨k0, k1, k2, s3, k4⟩, rfl, w3, w4⟩
set_option maxRecDepth 100000 in
set_option maxHeartbeats 1000000 in
theorem ops_open {H : Type} {enc : TypeId × Value → H} {W : World} {fuel : Nat} {v : Value} {y : DataW H × List MemPlace} (h : DataW.trod enc Tryd.prog W 0 (fun _ => true) true fuel 22 [v] = some y) : ∃ os, ItemsO W v os ∧ GoodO os ∧ ∀ o ∈ os, (Lit.int .i64 o.v).wf = true := by
  rcases Go.Deep.open_slice Tryd.underlying22 h with ⟨hv, hx⟩ | ⟨a, len, cap, m, n, D, Pl, hv, hb, hl, hm, hmm, hx, hc⟩
  · simp at hv
    exact ⟨[], ⟨none, 0, hv, Or.inl rfl⟩, ⟨Nat.zero_le _, fun o ho => by cases ho⟩, fun o ho => by cases ho⟩
  · simp at hv
    simp at hmm
    rw [cellsOp] at hc
    have key : ∀ i, i < len → ∃ o : Opd, W.cell? (a.add (i * 5)) = some (.int .i64 o.k) ∧ W.cell? (a.add (i * 5 + 1)) = some (.int .i64 o.a) ∧ W.cell? (a.add (i * 5 + 2)) = some (.int .i64 o.t) ∧ W.cell? (a.add (i * 5 + 3)) = some (.string o.s) ∧ W.cell? (a.add (i * 5 + 4)) = some (.int .i64 o.v) ∧ (o.s.size ≤ maxLen ∧ (Lit.int .i64 o.v).wf = true) := by
      intro i hi
      obtain ⟨cs', h1, h2⟩ := hc i (by omega)
      obtain ⟨_, hlen, hcell⟩ := World.cells?_some h1
      obtain ⟨o, rfl, r⟩ := op_cells h2 hlen
      have f0 := hcell 0 (by omega)
      have f1 := hcell 1 (by omega)
      have f2 := hcell 2 (by omega)
      have f3 := hcell 3 (by omega)
      have f4 := hcell 4 (by omega)
      rw [Go.Deep.add_add] at f0 f1 f2 f3 f4
      exact ⟨o, by simpa using f0, by simpa using f1, by simpa using f2, by simpa using f3, by simpa using f4, r⟩
    obtain ⟨q, hq⟩ := Go.Deep.choose_lt key
    have hlen : ((List.range len).map q).length = len := by simp
    have hget : ∀ j (hj : j < ((List.range len).map q).length), ((List.range len).map q)[j] = q j := fun j hj => by simp
    refine ⟨(List.range len).map q, ⟨some a, cap, by rw [hlen]; exact hv, ?_⟩, ⟨by rw [hlen]; exact Nat.le_trans hl hm, fun o ho => ?_⟩, fun o ho => ?_⟩
    · by_cases h0 : len = 0
      · exact Or.inl (hlen.trans h0)
      right
      obtain ⟨b, off, spot⟩ := a
      have k0 := (hq 0 (by omega)).1
      have hspot : spot = none := by simpa [Addr.add] using World.cell?_spot k0
      subst hspot
      refine ⟨b, off, rfl, ?_, fun j hj => ?_⟩
      · rw [Go.WideShapes.add_plain] at k0
        exact lt_of_cell0 k0
      · obtain ⟨f0, f1, f2, f3, f4, r⟩ := hq j (by simpa using hj)
        rw [Go.WideShapes.add_plain] at f0 f1 f2 f3 f4
        rw [hget j hj]
        exact ⟨f0, by rw [Nat.add_assoc]; exact f1, by rw [Nat.add_assoc]; exact f2, by rw [Nat.add_assoc]; exact f3, by rw [Nat.add_assoc]; exact f4⟩
    · obtain ⟨i, hi, rfl⟩ := List.mem_map.1 ho
      exact (hq i (List.mem_range.1 hi)).2.2.2.2.2.1
    · obtain ⟨i, hi, rfl⟩ := List.mem_map.1 ho
      exact (hq i (List.mem_range.1 hi)).2.2.2.2.2.2
set_option maxRecDepth 100000 in
theorem ops_arg {H : Type} {enc : TypeId × Value → H} {W : World} {base : Nat} {v : Value} {d : DataW H} {p : List MemPlace} (hv : Value.okWide Tryd.prog W .any base 22 v) (h : DataW.Trod enc Tryd.prog W 0 (fun _ => true) true 22 v d p) : ∃ os, ItemsO W v os ∧ GoodO os ∧ ∀ o ∈ os, (Lit.int .i64 o.v).wf = true := by
  obtain ⟨a, len, cap, rfl⟩ := okWide_slice Tryd.underlying22 hv
  obtain ⟨fuel, hf⟩ := h
  exact ops_open (y := (d, p)) (by simpa [Value.cells] using hf)
end Go.Proofs.YtfkijmmflpnncaaDoor.L
