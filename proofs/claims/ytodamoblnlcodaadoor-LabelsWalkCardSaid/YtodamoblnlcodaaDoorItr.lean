import Derived.RangeFuncNested
import Derived.RangeFuncBound
import Derived.RangeFuncCalls
import Derived.RangeFuncLeaves
import Derived.Shelf.Abstract
import Derived.Shelf.RegionOpen
import Derived.WalkKit
import Derived.OwnWalkIn
import Derived.TacticsInMore
import Derived.LoopNIn
import Derived.LoopIn
import Derived.Test.YtodamoblnlcodaaDoorDif
namespace Go.Proofs.YtodamoblnlcodaaDoor.L
open Go.RowKit Go.Shelf
set_option linter.unusedVariables false
attribute [local go_sem] Oper.semAt_some
/-- One difference: key, old, new, had, has. -/
structure Df where
  k : ByteArray
  o : ByteArray
  n : ByteArray
  had : Bool
  has : Bool
def dv (d : Df) : Value := .agg #[.string d.k, .string d.o, .string d.n, .bool d.had, .bool d.has]
def dDel (x : Lb) : Df := ⟨x.1, x.2, ByteArray.empty, true, false⟩
def dAdd (y : Lb) : Df := ⟨y.1, ByteArray.empty, y.2, false, true⟩
def dChg (x y : Lb) : Df := ⟨x.1, x.2, y.2, true, true⟩
/-- What the walk of two lists tells. -/
def df : List Lb → List Lb → List Df
  | [], [] => []
  | x :: a, [] => dDel x :: df a []
  | [], y :: b => dAdd y :: df [] b
  | x :: a, y :: b =>
    if Op.bytesLess x.1.toList y.1.toList = true then dDel x :: df a (y :: b)
    else if Op.bytesLess y.1.toList x.1.toList = true then dAdd y :: df (x :: a) b
    else if x.2 = y.2 then df a b
    else dChg x y :: df a b
termination_by a b => a.length + b.length
/-- A list's cells from an offset on. -/
def At (W : World) (b : Nat) : Nat → List Lb → Prop
  | _, [] => True
  | off, x :: l => W.cell? ⟨b, off, none⟩ = some (.string x.1) ∧ W.cell? ⟨b, off + 1, none⟩ = some (.string x.2) ∧ At W b (off + 2) l
/-- Whatever lies from one mark to another lies as it lay. -/
structure Mid (m n₀ : Nat) (W W' : World) : Prop where
  size : W.heap.size ≤ W'.heap.size
  block : ∀ k, m ≤ k → k < n₀ → W'.heap[k]? = W.heap[k]?
theorem Mid.cell {m n₀ : Nat} {W W' : World} (h : Mid m n₀ W W') {p : Addr} (h1 : m ≤ p.block) (h2 : p.block < n₀) : W'.cell? p = W.cell? p := by
  unfold World.cell?
  rw [h.block _ h1 h2]
theorem Mid.trans {m n₀ : Nat} {A B C : World} (h : Mid m n₀ A B) (k : Mid m n₀ B C) : Mid m n₀ A C := ⟨Nat.le_trans h.size k.size, fun j h1 h2 => (k.block j h1 h2).trans (h.block j h1 h2)⟩
theorem Mid.of {m n₀ N : Nat} {W W' : World} (h : Below N W W') (hN : n₀ ≤ N) : Mid m n₀ W W' := ⟨h.size, fun j _ h2 => h.block j (Nat.lt_of_lt_of_le h2 hN)⟩
theorem At.low {W W' : World} {b m n₀ : Nat} (ha : m ≤ b) (hb : b < n₀) (hB : Mid m n₀ W W') : ∀ {l : List Lb} {off : Nat}, At W b off l → At W' b off l
  | [], _, _ => trivial
  | _ :: _, off, ⟨h1, h2, h3⟩ => ⟨(hB.cell (p := ⟨b, off, none⟩) ha hb).trans h1, (hB.cell (p := ⟨b, off + 1, none⟩) ha hb).trans h2, At.low ha hb hB h3⟩
/-- A slice that holds a rest of a list, below a mark. -/
def Sl (m n₀ : Nat) (W : World) (v : Value) (l : List Lb) : Prop := ∃ a cap, v = .slice a l.length cap ∧ (l.length ≤ cap ∧ cap ≤ maxLen) ∧ (l = [] ∨ ∃ b off, a = some ⟨b, off, none⟩ ∧ (m ≤ b ∧ b < n₀) ∧ At W b off l)
theorem Sl.low {m n₀ : Nat} {W W' : World} {v : Value} {l : List Lb} (h : Sl m n₀ W v l) (hB : Mid m n₀ W W') : Sl m n₀ W' v l := by
  obtain ⟨a, cap, rfl, hc, h⟩ := h
  refine ⟨a, cap, rfl, hc, ?_⟩
  rcases h with h | ⟨b, off, rfl, hb, h⟩
  · exact Or.inl h
  · exact Or.inr ⟨b, off, rfl, hb, h.low hb.1 hb.2 hB⟩
theorem at_of {W : World} {b : Nat} : ∀ (l : List Lb) (off : Nat), (∀ j, j < l.length → W.cell? ⟨b, off + j * 2, none⟩ = some (.string (ky l j)) ∧ W.cell? ⟨b, off + j * 2 + 1, none⟩ = some (.string (vl l j))) → At W b off l
  | [], _, _ => trivial
  | x :: l, off, h => by
    have h0 := h 0 (by simp)
    refine ⟨by simpa [ky] using h0.1, by simpa [vl] using h0.2, at_of l (off + 2) fun j hj => ?_⟩
    have := h (j + 1) (by simp; omega)
    have e : off + (j + 1) * 2 = off + 2 + j * 2 := by omega
    rw [e] at this
    simpa [ky, vl] using this
theorem sl_of {W : World} {v : Value} {l : List Lb} (h : Came W v l) (m n₀ : Nat) (hn : W.heap.size ≤ n₀) (hf : ∀ b off n c, v = .slice (some ⟨b, off, none⟩) n c → l ≠ [] → m ≤ b) : Sl m n₀ W v l := by
  rcases h with ⟨rfl, rfl⟩ | ⟨a, cap, rfl, hc, h⟩
  · exact ⟨none, 0, rfl, ⟨Nat.le_refl _, Nat.zero_le _⟩, Or.inl rfl⟩
  · refine ⟨some a, cap, rfl, hc, ?_⟩
    by_cases hl : l = []
    · exact Or.inl hl
    rcases h with h | ⟨b, off, rfl, hb, h⟩
    · exact Or.inl (List.eq_nil_of_length_eq_zero h)
    · exact Or.inr ⟨b, off, rfl, ⟨hf b off _ _ rfl hl, Nat.lt_of_lt_of_le hb hn⟩, at_of l off h⟩
theorem sl_nil {m n₀ : Nat} {W : World} {v : Value} (h : Sl m n₀ W v []) : ∃ a cap, v = .slice a 0 cap := by
  obtain ⟨a, cap, rfl, _⟩ := h
  exact ⟨a, cap, rfl⟩
theorem sl_cons {m n₀ : Nat} {W : World} {v : Value} {x : Lb} {t : List Lb} (h : Sl m n₀ W v (x :: t)) : ∃ b off cap, v = .slice (some ⟨b, off, none⟩) (t.length + 1) cap ∧ t.length + 1 ≤ cap ∧ cap ≤ maxLen ∧ b < n₀ ∧ W.cell? ⟨b, off, none⟩ = some (.string x.1) ∧ W.cell? ⟨b, off + 1, none⟩ = some (.string x.2) := by
  obtain ⟨a, cap, rfl, hc, h | ⟨b, off, rfl, hb, h1, h2, _⟩⟩ := h
  · cases h
  · exact ⟨b, off, cap, rfl, hc.1, hc.2, hb.2, h1, h2⟩
theorem sl_tail {m n₀ : Nat} {W : World} {b off n cap : Nat} {x : Lb} {t : List Lb} (h : Sl m n₀ W (.slice (some ⟨b, off, none⟩) n cap) (x :: t)) : Sl m n₀ W (.slice (if cap = 1 then some ⟨b, off, none⟩ else some ⟨b, off + 2, none⟩) t.length (cap - 1)) t := by
  obtain ⟨a, cap', e, hc, h | ⟨b', off', rfl, hb, _, _, h⟩⟩ := h
  · cases h
  · simp only [Value.slice.injEq, Option.some.injEq, Addr.mk.injEq] at e
    obtain ⟨⟨rfl, rfl, _⟩, rfl, rfl⟩ := e
    simp only [List.length_cons] at hc
    refine ⟨_, _, rfl, ⟨by omega, by omega⟩, ?_⟩
    by_cases h1 : cap = 1
    · left
      exact List.eq_nil_of_length_eq_zero (by omega)
    · right
      exact ⟨b, off + 2, by rw [if_neg h1], hb, h⟩
theorem put5 (wr : World) (k : Nat) (t : TypeId) (v0 v1 v2 v3 v4 : Value) (W1 : World)
    (h : ((((((wr.alloc (.cells #[.string ⟨#[]⟩, .string ⟨#[]⟩, .string ⟨#[]⟩, .bool false, .bool false] t)).drewN k).setCell ⟨wr.heap.size, 0, none⟩ v0).setCell ⟨wr.heap.size, 1, none⟩ v1).setCell ⟨wr.heap.size, 2, none⟩ v2).setCell ⟨wr.heap.size, 3, none⟩ v3).setCell ⟨wr.heap.size, 4, none⟩ v4 = W1) :
    Below wr.heap.size wr W1 ∧ W1.heap.size = wr.heap.size + 1 ∧ W1.cell? ⟨wr.heap.size, 0, none⟩ = some v0 ∧ W1.cell? ⟨wr.heap.size, 1, none⟩ = some v1 ∧ W1.cell? ⟨wr.heap.size, 2, none⟩ = some v2 ∧ W1.cell? ⟨wr.heap.size, 3, none⟩ = some v3 ∧ W1.cell? ⟨wr.heap.size, 4, none⟩ = some v4 := by
  subst h
  refine ⟨?_, by simp [World.setCell], ?_, ?_, ?_, ?_, ?_⟩
  · exact (((((below_drewN ((Below.refl _ _).alloc (Nat.le_refl _) _) k).setCell (Nat.le_refl _) _).setCell (Nat.le_refl _) _).setCell (Nat.le_refl _) _).setCell (Nat.le_refl _) _).setCell (Nat.le_refl _) _
  · simp [go_sem]
  · simp [go_sem]
  · simp [go_sem]
  · simp [go_sem]
  · simp [go_sem]
theorem belowN (n₀ : Nat) (W : World) (k : Nat) : Below n₀ W (W.drewN k) := below_drewN (Below.refl _ _) _
def lenOf : Value → Nat
  | .slice _ n _ => n
  | _ => 0
set_option maxHeartbeats 4000000 in
set_option maxRecDepth 100000 in
theorem iter_px (n : Nat) (hn : 1 ≤ n) (l m0 n₀ B : Nat) (v1 v2 : Value) (A C : List Lb) (J Jx : List Df → World → Prop)
    (hJg : ∀ pre W W', J pre W → Below W.heap.size W W' → J pre W')
    (hY : ∀ pre x W, J pre W → pre ++ [x] <+: df A C → YieldAt Fence.wide (n - 1) Tryd.prog l #[dv x] W fun e W' =>
      (e = .returned (.bool true) ∧ J (pre ++ [x]) W' ∧ Mid m0 n₀ W W') ∨ (e = .returned (.bool false) ∧ Jx (pre ++ [x]) W'))
    (W : World) (hnW : n₀ ≤ W.heap.size) (h1 : W.cell? ⟨B, 0, none⟩ = some v1) (h2 : W.cell? ⟨B + 1, 0, none⟩ = some v2) (s1 : Sl m0 n₀ W v1 A) (s2 : Sl m0 n₀ W v2 C) (h0 : J [] W) :
    CallsIn Fence.wide n Tryd.prog 19 #[.func (.yield l) #[] #[], .pointer (some ⟨B, 0, none⟩), .pointer (some ⟨B + 1, 0, none⟩)] W fun e W' => (∃ v, e = .returned v) ∧
      ((∃ ys, ys = df A C ∧ J ys W') ∨ (∃ pre, pre <+: df A C ∧ Jx pre W')) := by
  have S1 := hid s1
  have S2 := hid s2
  obtain ⟨a1, c1, rfl, _⟩ := s1
  obtain ⟨a2, c2, rfl, _⟩ := s2
  have HY := hid hY
  have HJG := hid hJg
  have H0 := hid h0
  clear hY hJg h0
  refine callsIn_wide.2 ?_
  go_enter Tryd.func19, Tryd.ntmps19
  go_wp2_with fail
  go_quiet (fail)
  go_wp2_with fail
  go_loopw [4, 5] (fun va vb wr => ∃ (pre : List Df) (la lc : List Lb), Hid (pre ++ df la lc = df A C) ∧ Hid (n₀ ≤ wr.heap.size) ∧ Hid (Sl m0 n₀ wr va la) ∧ Hid (Sl m0 n₀ wr vb lc) ∧ Hid (J pre wr)) (fun va vb _ => lenOf va + lenOf vb)
  case atStart => exact ⟨[], A, C, hid rfl, hid hnW, hid (S1.out.low (Mid.of (belowN n₀ _ _) (Nat.le_refl _))), hid (S2.out.low (Mid.of (belowN n₀ _ _) (Nat.le_refl _))), hid (HJG.out _ _ _ H0.out (belowN _ _ _))⟩
  case round =>
    obtain ⟨pre, la, lc, HD, HN, H1, H2, HJ⟩ := hrel
    clear h1 h2
    cases la with
    | nil =>
      cases lc with
      | nil =>
        obtain ⟨p1, q1, rfl⟩ := sl_nil H1.out
        obtain ⟨p2, q2, rfl⟩ := sl_nil H2.out
        go_wp2
        go_end0
        exact ⟨⟨_, rfl⟩, .inl ⟨pre, by have := HD.out; rw [df, List.append_nil] at this; exact this, HJ.out⟩⟩
      | cons y c =>
        obtain ⟨p1, q1, rfl⟩ := sl_nil H1.out
        obtain ⟨b2, o2, q2, rfl, t1, t2, t3, t4, t5⟩ := sl_cons H2.out
        have b6 : b2 < wr.heap.size := Nat.lt_of_lt_of_le t3 HN.out
        unfold maxLen at t2
        have HT2 := hid (sl_tail H2.out)
        obtain ⟨k, hk⟩ : ∃ k, k = c.length := ⟨_, rfl⟩
        have HK := hid hk
        rw [← hk] at t1 HT2 H2 ⊢
        clear hk
        have e9 : ((k : Int) + 1 == 0) = false := by simp; omega
        have HD2 := hid (show (pre ++ [dAdd y]) ++ df [] c = df A C by rw [← HD.out, df]; simp)
        have HL := hid (show _ <+: df A C from ⟨_, HD2.out⟩)
        go_wp2
        go_quiet (fail)
        generalize nq = k0
        go_wp2
        go_quiet (fail)
        go_wp2
        go_region
        generalize hW1 : ((((((wr.alloc (.cells #[.string ⟨#[]⟩, .string ⟨#[]⟩, .string ⟨#[]⟩, .bool false, .bool false] 35)).drewN (k0 + nq + 1)).setCell ⟨wr.heap.size, 0, none⟩ (.string y.1)).setCell ⟨wr.heap.size, 1, none⟩ (.string ⟨#[]⟩)).setCell ⟨wr.heap.size, 2, none⟩ (.string y.2)).setCell ⟨wr.heap.size, 3, none⟩ (.bool false)).setCell ⟨wr.heap.size, 4, none⟩ (.bool true) = W1
        obtain ⟨pb, ps, g0, g1, g2, g3, g4⟩ := put5 wr _ _ _ _ _ _ _ _ hW1
        have PB := hid pb
        obtain ⟨fn, tmps, assign, body, hy, hR⟩ := HY.out pre (dAdd y) W1 (HJG.out _ _ _ HJ.out pb) HL.out
        have HR := hid hR
        have hy2 : (Instr.yield l #[.agg #[.string y.1, .string ⟨#[]⟩, .string y.2, .bool false, .bool true]]).run Tryd.prog W1 = .ok (.round l fn tmps assign body) W1 := hy
        clear hW1 pb ps hy hR t4 t5
        rename_i K1 hK1 nq0 K0 hK0
        have HK1 := hid hK1
        clear hK1
        go_wp2
        all_goals (
          refine HK1.out _ _ ((wpIn_wide (n := n)).1 ?_)
          clear HK1
          gi_wp2
          refine HR.out.mono ?_
          rintro e W2 (⟨rfl, hJ2, hk2⟩ | ⟨rfl, hJx2⟩)
          · have LW := hid ((Mid.of PB.out HN.out).trans hk2)
            have HN2 := hid (Nat.le_trans HN.out LW.out.size)
            have HJ2 := hid hJ2
            clear hJ2 hk2
            gi_wp2
            exact ⟨⟨pre ++ [dAdd y], [], c, HD2, HN2, hid ((H1.out : Sl m0 n₀ wr _ _).low LW.out), hid ((by have h := HT2.out; first | (rw [if_neg ‹¬ q2 = 1›] at h; exact h) | (rw [if_pos ‹q2 = 1›, ‹q2 = 1›] at h; exact h) : Sl m0 n₀ wr _ _).low LW.out), HJ2⟩, by simp [lenOf]⟩
          · have HX := hid hJx2
            clear hJx2
            gi_wp2
            (try simp only [Exit.inBlock, Exit.then])
            refine bodyPost_ret (results_none rfl _ _ _) rfl ?_
            exact ⟨⟨_, rfl⟩, .inr ⟨pre ++ [dAdd y], ⟨_, HD2.out⟩, HX.out⟩⟩)
    | cons x a =>
      cases lc with
      | nil =>
        obtain ⟨b1, o1, q1, rfl, r1, r2, r3, r4, r5⟩ := sl_cons H1.out
        have a6 : b1 < wr.heap.size := Nat.lt_of_lt_of_le r3 HN.out
        unfold maxLen at r2
        have HT1 := hid (sl_tail H1.out)
        obtain ⟨m, hm⟩ : ∃ m, m = a.length := ⟨_, rfl⟩
        have HM := hid hm
        rw [← hm] at r1 HT1 H1 ⊢
        clear hm
        have e8 : ((m : Int) + 1 == 0) = false := by simp; omega
        obtain ⟨p2, q2, rfl⟩ := sl_nil H2.out
        have HD2 := hid (show (pre ++ [dDel x]) ++ df a [] = df A C by rw [← HD.out, df]; simp)
        have HL := hid (show _ <+: df A C from ⟨_, HD2.out⟩)
        go_wp2
        go_quiet (fail)
        go_wp2
        go_region
        generalize hW1 : ((((((wr.alloc (.cells #[.string ⟨#[]⟩, .string ⟨#[]⟩, .string ⟨#[]⟩, .bool false, .bool false] 35)).drewN (nq + 1)).setCell ⟨wr.heap.size, 0, none⟩ (.string x.1)).setCell ⟨wr.heap.size, 1, none⟩ (.string x.2)).setCell ⟨wr.heap.size, 2, none⟩ (.string ⟨#[]⟩)).setCell ⟨wr.heap.size, 3, none⟩ (.bool true)).setCell ⟨wr.heap.size, 4, none⟩ (.bool false) = W1
        obtain ⟨pb, ps, g0, g1, g2, g3, g4⟩ := put5 wr _ _ _ _ _ _ _ _ hW1
        have PB := hid pb
        obtain ⟨fn, tmps, assign, body, hy, hR⟩ := HY.out pre (dDel x) W1 (HJG.out _ _ _ HJ.out pb) HL.out
        have HR := hid hR
        have hy2 : (Instr.yield l #[.agg #[.string x.1, .string x.2, .string ⟨#[]⟩, .bool true, .bool false]]).run Tryd.prog W1 = .ok (.round l fn tmps assign body) W1 := hy
        clear hW1 pb ps hy hR r4 r5
        rename_i K1 hK1 K0 hK0
        have HK1 := hid hK1
        clear hK1
        go_wp2
        all_goals (
          refine HK1.out _ _ ((wpIn_wide (n := n)).1 ?_)
          clear HK1
          gi_wp2
          refine HR.out.mono ?_
          rintro e W2 (⟨rfl, hJ2, hk2⟩ | ⟨rfl, hJx2⟩)
          · have LW := hid ((Mid.of PB.out HN.out).trans hk2)
            have HN2 := hid (Nat.le_trans HN.out LW.out.size)
            have HJ2 := hid hJ2
            clear hJ2 hk2
            gi_wp2
            exact ⟨⟨pre ++ [dDel x], a, [], HD2, HN2, hid ((by have h := HT1.out; first | (rw [if_neg ‹¬ q1 = 1›] at h; exact h) | (rw [if_pos ‹q1 = 1›, ‹q1 = 1›] at h; exact h) : Sl m0 n₀ wr _ _).low LW.out), hid ((H2.out : Sl m0 n₀ wr _ _).low LW.out), HJ2⟩, by simp [lenOf]⟩
          · have HX := hid hJx2
            clear hJx2
            gi_wp2
            (try simp only [Exit.inBlock, Exit.then])
            refine bodyPost_ret (results_none rfl _ _ _) rfl ?_
            exact ⟨⟨_, rfl⟩, .inr ⟨pre ++ [dDel x], ⟨_, HD2.out⟩, HX.out⟩⟩)
      | cons y c =>
        obtain ⟨b1, o1, q1, rfl, r1, r2, r3, r4, r5⟩ := sl_cons H1.out
        have a6 : b1 < wr.heap.size := Nat.lt_of_lt_of_le r3 HN.out
        unfold maxLen at r2
        have HT1 := hid (sl_tail H1.out)
        obtain ⟨m, hm⟩ : ∃ m, m = a.length := ⟨_, rfl⟩
        have HM := hid hm
        rw [← hm] at r1 HT1 H1 ⊢
        clear hm
        have e8 : ((m : Int) + 1 == 0) = false := by simp; omega
        obtain ⟨b2, o2, q2, rfl, t1, t2, t3, t4, t5⟩ := sl_cons H2.out
        have b6 : b2 < wr.heap.size := Nat.lt_of_lt_of_le t3 HN.out
        unfold maxLen at t2
        have HT2 := hid (sl_tail H2.out)
        obtain ⟨k, hk⟩ : ∃ k, k = c.length := ⟨_, rfl⟩
        have HK := hid hk
        rw [← hk] at t1 HT2 H2 ⊢
        clear hk
        have e9 : ((k : Int) + 1 == 0) = false := by simp; omega
        by_cases l1 : Op.bytesLess x.1.toList y.1.toList = true
        · have HD2 := hid (show (pre ++ [dDel x]) ++ df a (y :: c) = df A C by rw [← HD.out, df]; rw [if_pos l1]; simp)
          have HL := hid (show _ <+: df A C from ⟨_, HD2.out⟩)
          go_wp2
          go_quiet (fail)
          go_wp2
          go_region
          generalize hW1 : ((((((wr.alloc (.cells #[.string ⟨#[]⟩, .string ⟨#[]⟩, .string ⟨#[]⟩, .bool false, .bool false] 35)).drewN (nq + 1)).setCell ⟨wr.heap.size, 0, none⟩ (.string x.1)).setCell ⟨wr.heap.size, 1, none⟩ (.string x.2)).setCell ⟨wr.heap.size, 2, none⟩ (.string ⟨#[]⟩)).setCell ⟨wr.heap.size, 3, none⟩ (.bool true)).setCell ⟨wr.heap.size, 4, none⟩ (.bool false) = W1
          obtain ⟨pb, ps, g0, g1, g2, g3, g4⟩ := put5 wr _ _ _ _ _ _ _ _ hW1
          have PB := hid pb
          obtain ⟨fn, tmps, assign, body, hy, hR⟩ := HY.out pre (dDel x) W1 (HJG.out _ _ _ HJ.out pb) HL.out
          have HR := hid hR
          have hy2 : (Instr.yield l #[.agg #[.string x.1, .string x.2, .string ⟨#[]⟩, .bool true, .bool false]]).run Tryd.prog W1 = .ok (.round l fn tmps assign body) W1 := hy
          clear hW1 pb ps hy hR r4 r5 t4 t5
          rename_i K1 hK1 K0 hK0
          have HK1 := hid hK1
          clear hK1
          go_wp2
          all_goals (
            refine HK1.out _ _ ((wpIn_wide (n := n)).1 ?_)
            clear HK1
            gi_wp2
            refine HR.out.mono ?_
            rintro e W2 (⟨rfl, hJ2, hk2⟩ | ⟨rfl, hJx2⟩)
            · have LW := hid ((Mid.of PB.out HN.out).trans hk2)
              have HN2 := hid (Nat.le_trans HN.out LW.out.size)
              have HJ2 := hid hJ2
              clear hJ2 hk2
              gi_wp2
              exact ⟨⟨pre ++ [dDel x], a, (y :: c), HD2, HN2, hid ((by have h := HT1.out; first | (rw [if_neg ‹¬ q1 = 1›] at h; exact h) | (rw [if_pos ‹q1 = 1›, ‹q1 = 1›] at h; exact h) : Sl m0 n₀ wr _ _).low LW.out), hid ((H2.out : Sl m0 n₀ wr _ _).low LW.out), HJ2⟩, by simp [lenOf]⟩
            · have HX := hid hJx2
              clear hJx2
              gi_wp2
              (try simp only [Exit.inBlock, Exit.then])
              refine bodyPost_ret (results_none rfl _ _ _) rfl ?_
              exact ⟨⟨_, rfl⟩, .inr ⟨pre ++ [dDel x], ⟨_, HD2.out⟩, HX.out⟩⟩)
        · have l1f : Op.bytesLess x.1.toList y.1.toList = false := by simpa using l1
          by_cases l2 : Op.bytesLess y.1.toList x.1.toList = true
          · have HD2 := hid (show (pre ++ [dAdd y]) ++ df (x :: a) c = df A C by rw [← HD.out, df]; rw [if_neg l1, if_pos l2]; simp)
            have HL := hid (show _ <+: df A C from ⟨_, HD2.out⟩)
            go_wp2
            go_quiet (fail)
            generalize nq = k0
            go_wp2
            go_quiet (fail)
            go_wp2
            go_region
            generalize hW1 : ((((((wr.alloc (.cells #[.string ⟨#[]⟩, .string ⟨#[]⟩, .string ⟨#[]⟩, .bool false, .bool false] 35)).drewN (k0 + nq + 1)).setCell ⟨wr.heap.size, 0, none⟩ (.string y.1)).setCell ⟨wr.heap.size, 1, none⟩ (.string ⟨#[]⟩)).setCell ⟨wr.heap.size, 2, none⟩ (.string y.2)).setCell ⟨wr.heap.size, 3, none⟩ (.bool false)).setCell ⟨wr.heap.size, 4, none⟩ (.bool true) = W1
            obtain ⟨pb, ps, g0, g1, g2, g3, g4⟩ := put5 wr _ _ _ _ _ _ _ _ hW1
            have PB := hid pb
            obtain ⟨fn, tmps, assign, body, hy, hR⟩ := HY.out pre (dAdd y) W1 (HJG.out _ _ _ HJ.out pb) HL.out
            have HR := hid hR
            have hy2 : (Instr.yield l #[.agg #[.string y.1, .string ⟨#[]⟩, .string y.2, .bool false, .bool true]]).run Tryd.prog W1 = .ok (.round l fn tmps assign body) W1 := hy
            clear hW1 pb ps hy hR r4 r5 t4 t5
            rename_i K1 hK1 nq0 K0 hK0
            have HK1 := hid hK1
            clear hK1
            go_wp2
            all_goals (
              refine HK1.out _ _ ((wpIn_wide (n := n)).1 ?_)
              clear HK1
              gi_wp2
              refine HR.out.mono ?_
              rintro e W2 (⟨rfl, hJ2, hk2⟩ | ⟨rfl, hJx2⟩)
              · have LW := hid ((Mid.of PB.out HN.out).trans hk2)
                have HN2 := hid (Nat.le_trans HN.out LW.out.size)
                have HJ2 := hid hJ2
                clear hJ2 hk2
                gi_wp2
                exact ⟨⟨pre ++ [dAdd y], (x :: a), c, HD2, HN2, hid ((H1.out : Sl m0 n₀ wr _ _).low LW.out), hid ((by have h := HT2.out; first | (rw [if_neg ‹¬ q2 = 1›] at h; exact h) | (rw [if_pos ‹q2 = 1›, ‹q2 = 1›] at h; exact h) : Sl m0 n₀ wr _ _).low LW.out), HJ2⟩, by simp [lenOf]⟩
              · have HX := hid hJx2
                clear hJx2
                gi_wp2
                (try simp only [Exit.inBlock, Exit.then])
                refine bodyPost_ret (results_none rfl _ _ _) rfl ?_
                exact ⟨⟨_, rfl⟩, .inr ⟨pre ++ [dAdd y], ⟨_, HD2.out⟩, HX.out⟩⟩)
          · have l2f : Op.bytesLess y.1.toList x.1.toList = false := by simpa using l2
            have ek : x.1 = y.1 := by
              rcases less_total x.1.toList y.1.toList with h | h | h
              · exact absurd h l1
              · exact bytes_ext h
              · exact absurd h l2
            by_cases ev : x.2 = y.2
            · have HD2 := hid (show pre ++ df a c = df A C by rw [← HD.out, df, if_neg l1, if_neg l2, if_pos ev])
              obtain ⟨xk, xv⟩ := x
              obtain ⟨yk, yv⟩ := y
              simp only at ek ev
              subst ek
              subst ev
              simp only at r4 r5 t4 t5 l1f l2f
              clear l1 l2
              go_wp2
              go_quiet (fail)
              go_wp2
              go_quiet (fail)
              go_wp2
              go_quiet (fail)
              go_wp2
              by_cases w1 : q1 = 1 <;> by_cases w2 : q2 = 1
              all_goals (
                go_quiet (fail)
                go_wp2
                exact ⟨⟨pre, a, c, HD2, hid (Nat.le_trans HN.out (show Below wr.heap.size wr _ from by (repeat (refine below_drewN ?_ _)); exact (Below.refl _ _).alloc (Nat.le_refl _) _).size), hid ((by have h := HT1.out; first | (rw [if_neg ‹¬ q1 = 1›] at h; exact h) | (rw [if_pos ‹q1 = 1›, ‹q1 = 1›] at h; exact h) : Sl m0 n₀ wr _ _).low (Mid.of (show Below wr.heap.size wr _ from by (repeat (refine below_drewN ?_ _)); exact (Below.refl _ _).alloc (Nat.le_refl _) _) HN.out)), hid ((by have h := HT2.out; first | (rw [if_neg ‹¬ q2 = 1›] at h; exact h) | (rw [if_pos ‹q2 = 1›, ‹q2 = 1›] at h; exact h) : Sl m0 n₀ wr _ _).low (Mid.of (show Below wr.heap.size wr _ from by (repeat (refine below_drewN ?_ _)); exact (Below.refl _ _).alloc (Nat.le_refl _) _) HN.out)), hid (HJG.out _ _ _ HJ.out (show Below wr.heap.size wr _ from by (repeat (refine below_drewN ?_ _)); exact (Below.refl _ _).alloc (Nat.le_refl _) _))⟩, by simp [lenOf]; omega⟩)
            · have HD2 := hid (show (pre ++ [dChg x y]) ++ df a c = df A C by rw [← HD.out, df, if_neg l1, if_neg l2, if_neg ev]; simp)
              have HL := hid (show _ <+: df A C from ⟨_, HD2.out⟩)
              obtain ⟨xk, xv⟩ := x
              obtain ⟨yk, yv⟩ := y
              simp only at ek ev
              subst ek
              simp only at r4 r5 t4 t5 l1f l2f
              clear l1 l2
              have n2 : (xv.toList == yv.toList) = false := by simp; exact fun h => ev (bytes_ext h)
              go_wp2
              go_quiet (fail)
              generalize nq = k0
              go_wp2
              go_quiet (fail)
              generalize nq = k1
              go_wp2
              go_quiet (fail)
              go_wp2
              go_region
              generalize hW1 : ((((((wr.alloc (.cells #[.string ⟨#[]⟩, .string ⟨#[]⟩, .string ⟨#[]⟩, .bool false, .bool false] 35)).drewN (k0 + k1 + nq + 1)).setCell ⟨wr.heap.size, 0, none⟩ (.string xk)).setCell ⟨wr.heap.size, 1, none⟩ (.string xv)).setCell ⟨wr.heap.size, 2, none⟩ (.string yv)).setCell ⟨wr.heap.size, 3, none⟩ (.bool true)).setCell ⟨wr.heap.size, 4, none⟩ (.bool true) = W1
              obtain ⟨pb, ps, g0, g1, g2, g3, g4⟩ := put5 wr _ _ _ _ _ _ _ _ hW1
              have PB := hid pb
              clear hW1 pb ps r4 r5 t4 t5
              rename_i K1 hK1 nq0 nq1 K0 hK0
              have HK1 := hid hK1
              clear hK1
              go_wp2
              by_cases w1 : q1 = 1 <;> by_cases w2 : q2 = 1
              all_goals (
                go_quiet (fail)
                go_wp2
                obtain ⟨fn, tmps, assign, body, hy, hR⟩ := HY.out pre (dChg (xk, xv) (xk, yv)) (W1.drewN nq) (HJG.out _ _ _ HJ.out (below_drewN PB.out _)) HL.out
                have HR := hid hR
                have hy2 : (Instr.yield l #[.agg #[.string xk, .string xv, .string yv, .bool true, .bool true]]).run Tryd.prog (W1.drewN nq) = .ok (.round l fn tmps assign body) (W1.drewN nq) := hy
                clear hy hR
                refine HK1.out _ _ ((wpIn_wide (n := n)).1 ?_)
                clear HK1
                gi_wp2
                refine HR.out.mono ?_
                rintro e W2 (⟨rfl, hJ2, hk2⟩ | ⟨rfl, hJx2⟩)
                · have LW := hid ((Mid.of (below_drewN PB.out _) HN.out).trans hk2)
                  have HN2 := hid (Nat.le_trans HN.out LW.out.size)
                  have HJ2 := hid hJ2
                  clear hJ2 hk2
                  gi_wp2
                  exact ⟨⟨pre ++ [dChg (xk, xv) (xk, yv)], a, c, HD2, HN2, hid ((by have h := HT1.out; first | (rw [if_neg ‹¬ q1 = 1›] at h; exact h) | (rw [if_pos ‹q1 = 1›, ‹q1 = 1›] at h; exact h) : Sl m0 n₀ wr _ _).low LW.out), hid ((by have h := HT2.out; first | (rw [if_neg ‹¬ q2 = 1›] at h; exact h) | (rw [if_pos ‹q2 = 1›, ‹q2 = 1›] at h; exact h) : Sl m0 n₀ wr _ _).low LW.out), HJ2⟩, by simp [lenOf]; omega⟩
                · have HX := hid hJx2
                  clear hJx2
                  gi_wp2
                  (try simp only [Exit.inBlock, Exit.then])
                  refine bodyPost_ret (results_none rfl _ _ _) rfl ?_
                  exact ⟨⟨_, rfl⟩, .inr ⟨pre ++ [dChg (xk, xv) (xk, yv)], ⟨_, HD2.out⟩, HX.out⟩⟩)
theorem iter_in (n : Nat) (hn : 1 ≤ n) (l m0 n₀ B : Nat) (v1 v2 : Value) (A C : List Lb) (J Jx : List Df → World → Prop)
    (hJg : ∀ pre W W', J pre W → Below W.heap.size W W' → J pre W')
    (hY : ∀ pre x W, J pre W → pre.length < (df A C).length → YieldAt Fence.wide (n - 1) Tryd.prog l #[dv x] W fun e W' =>
      (e = .returned (.bool true) ∧ J (pre ++ [x]) W' ∧ Mid m0 n₀ W W') ∨ (e = .returned (.bool false) ∧ Jx (pre ++ [x]) W'))
    (W : World) (hnW : n₀ ≤ W.heap.size) (h1 : W.cell? ⟨B, 0, none⟩ = some v1) (h2 : W.cell? ⟨B + 1, 0, none⟩ = some v2) (s1 : Sl m0 n₀ W v1 A) (s2 : Sl m0 n₀ W v2 C) (h0 : J [] W) :
    CallsIn Fence.wide n Tryd.prog 19 #[.func (.yield l) #[] #[], .pointer (some ⟨B, 0, none⟩), .pointer (some ⟨B + 1, 0, none⟩)] W fun e W' => (∃ v, e = .returned v) ∧
      ((∃ ys, ys = df A C ∧ J ys W') ∨ (∃ pre, pre <+: df A C ∧ Jx pre W')) :=
  iter_px n hn l m0 n₀ B v1 v2 A C J Jx hJg (fun pre x W hj hp => hY pre x W hj (by obtain ⟨t, ht⟩ := hp; rw [← ht]; simp)) W hnW h1 h2 s1 s2 h0
end Go.Proofs.YtodamoblnlcodaaDoor.L
