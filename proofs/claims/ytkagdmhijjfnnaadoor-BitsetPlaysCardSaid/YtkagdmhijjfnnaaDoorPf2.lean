import Derived.Test.YtkagdmhijjfnnaaDoorMgAW
namespace Go.Proofs.YtkagdmhijjfnnaaDoor
open Go.RowKit Bs
set_option linter.unusedVariables false
/-- One of the four: the program's set, the document's. -/
structure RSt where
  v : Value
  q : Nat
  n : Nat
  S : Nat → Bool
  rn : Nat
  lv : Value
  ms : List Int
  nil : Bool
def upd (st : Nat → RSt) (i : Nat) (x : RSt) : Nat → RSt := fun j => if j = i then x else st j
theorem upd_same (st : Nat → RSt) (i : Nat) (x : RSt) : upd st i x i = x := if_pos rfl
theorem upd_other (st : Nat → RSt) {i j : Nat} (x : RSt) (h : j ≠ i) : upd st i x j = st j := if_neg h
/-- The law's Regs in memory. -/
structure Rg (w0 W : World) (B : Nat) (st : Nat → RSt) : Prop where
  bb : ∃ cur : Array Value, W.heap[B]? = some (.cells cur 33 (0, 0)) ∧ cur.size = 16 ∧ ∀ i, i < 4 → cur[i]? = some (st i).v ∧ cur[4 + i * 2]? = some (.int .i64 ((st i).rn : Int)) ∧ cur[4 + i * 2 + 1]? = some (st i).lv ∧ cur[12 + i]? = some (.bool (st i).nil)
  so : ∀ i, i < 4 → SO W (st i).v (st i).q (st i).n (st i).S
  ow : ∀ i, i < 4 → OwnI W 0 (st i).lv (st i).ms
  ap : ∀ i j, i < 4 → j < 4 → i ≠ j → ∀ p p', (st i).v = .pointer (some ⟨p, 0, none⟩) → (st j).v = .pointer (some ⟨p', 0, none⟩) → p ≠ p' ∧ (st i).q ≠ (st j).q
  fa : ∀ i, i < 4 → ∀ p, (st i).v = .pointer (some ⟨p, 0, none⟩) → w0.heap.size ≤ p ∧ w0.heap.size ≤ (st i).q
  lo : Below w0.heap.size w0 W
  hB : w0.heap.size ≤ B
  t0 : Tab w0
theorem Rg.tab {w0 W : World} {B : Nat} {st : Nat → RSt} (h : Rg w0 W B st) : Tab W := h.t0.low h.lo h.t0.pos
theorem Rg.lt {w0 W : World} {B : Nat} {st : Nat → RSt} (h : Rg w0 W B st) : B < W.heap.size := by
  obtain ⟨cur, hc, _⟩ := h.bb
  exact lt_of_block hc
theorem SO.at' {W : World} {p q n : Nat} {S : Nat → Bool} (h : SO W (.pointer (some ⟨p, 0, none⟩)) q n S) : SetAt W p q n S := by
  rcases h with ⟨e, _⟩ | ⟨p', e, h⟩
  · cases e
  · injection e with e; injection e with e; injection e with e _ _
    subst e; exact h
theorem SetAt.bp {W : World} {p q n : Nat} {S : Nat → Bool} (h : SetAt W p q n S) : ∃ cs, W.heap[p]? = some (.cells cs 74 (0, 0)) := by
  obtain ⟨ws, x, _⟩ := h; exact ⟨_, x.hp⟩
theorem SetAt.bq {W : World} {p q n : Nat} {S : Nat → Bool} (h : SetAt W p q n S) : ∃ cs, W.heap[q]? = some (.cells cs 59 (0, 0)) := by
  obtain ⟨ws, x, _⟩ := h; exact ⟨_, x.hq⟩
theorem kinds_ne {W : World} {a b : Nat} {c d : Array Value} {t u : TypeId} (h : W.heap[a]? = some (.cells c t (0, 0))) (k : W.heap[b]? = some (.cells d u (0, 0))) (hne : t ≠ u) : a ≠ b := fun e => by
  subst e
  rw [h] at k
  injection k with k
  injection k with _ k _
  exact hne k
theorem OwnI.kind {W : World} {base : Nat} {v : Value} {zs : List Int} (h : OwnI W base v zs) {g : Nat} (e : v.ownBlock = some g) : ∃ cs, W.heap[g]? = some (.cells cs 3 (0, 0)) := by
  rcases h.2 with ⟨e', _⟩ | ⟨g', cap, cur, e', _, hh, _⟩
  · rw [e'] at e; cases e
  · rw [e'] at e; simp [Value.ownBlock] at e; subst e; exact ⟨cur, hh⟩
theorem own_keep {W W' : World} {base k : Nat} {v : Value} {zs : List Int} (h : OwnI W base v zs) (c : Chg k W W') (hk : v.ownBlock ≠ some k) : OwnI W' base v zs :=
  h.kept (row := some k) ⟨c.os, c.tape, c.output, c.size, fun j hj hne => c.block j hj (fun e => hne (by rw [e]))⟩ (Or.inr hk)
theorem Rg.low {w0 W W' : World} {B : Nat} {st : Nat → RSt} (h : Rg w0 W B st) (k : Below W.heap.size W W') : Rg w0 W' B st := by
  obtain ⟨cur, hc, r⟩ := h.bb
  exact ⟨⟨cur, (k.block B h.lt).trans hc, r⟩, fun i hi => (h.so i hi).low k, fun i hi => own_low (h.ow i hi) k, h.ap, h.fa, h.lo.trans (k.mono h.lo.size), h.hB, h.t0⟩
theorem Rg.cells {w0 W : World} {B : Nat} {st : Nat → RSt} (h : Rg w0 W B st) {i : Nat} (hi : i < 4) : W.cell? ⟨B, i, none⟩ = some (st i).v ∧ W.cell? ⟨B, 4 + i * 2, none⟩ = some (.int .i64 ((st i).rn : Int)) ∧ W.cell? ⟨B, 4 + i * 2 + 1, none⟩ = some (st i).lv ∧ W.cell? ⟨B, 12 + i, none⟩ = some (.bool (st i).nil) := by
  obtain ⟨cur, hc, _, r⟩ := h.bb
  obtain ⟨r1, r2, r3, r4⟩ := r i hi
  exact ⟨by rw [cell_of_row W B _ _ _ _ hc]; exact r1, by rw [cell_of_row W B _ _ _ _ hc]; exact r2, by rw [cell_of_row W B _ _ _ _ hc]; exact r3, by rw [cell_of_row W B _ _ _ _ hc]; exact r4⟩
theorem Rg.fz {w0 W : World} {B : Nat} {st : Nat → RSt} (h : Rg w0 W B st) (k : Nat) : W.frozen? ⟨B, k, none⟩ = false := by
  obtain ⟨cur, hc, _⟩ := h.bb
  exact frozen_of_row W B k _ _ hc
theorem Rg.lts {w0 W : World} {B : Nat} {st : Nat → RSt} (h : Rg w0 W B st) {i : Nat} (hi : i < 4) {p : Nat} (e : (st i).v = .pointer (some ⟨p, 0, none⟩)) : p < W.heap.size ∧ (st i).q < W.heap.size := by
  have s := h.so i hi
  rw [e] at s
  obtain ⟨c1, h1⟩ := s.at'.bp
  obtain ⟨c2, h2⟩ := s.at'.bq
  exact ⟨lt_of_block h1, lt_of_block h2⟩
/-- What a call does to one set. -/
def Mv (W W' : World) (v : Value) (q q' n' : Nat) (S' : Nat → Bool) : Prop :=
  (v = .pointer none ∧ Below W.heap.size W W' ∧ n' = 0 ∧ ∀ i, S' i = false) ∨ ∃ p, v = .pointer (some ⟨p, 0, none⟩) ∧ SetAt W' p q' n' S' ∧ ((Chg q W W' ∧ q' = q) ∨ (Chg p W W' ∧ q' = W.heap.size))
theorem Rg.mv {w0 W W' : World} {B : Nat} {st : Nat → RSt} (h : Rg w0 W B st) {a : Nat} (ha : a < 4) {q' n' : Nat} {S' : Nat → Bool} (m : Mv W W' (st a).v (st a).q q' n' S') : Rg w0 W' B (upd st a { st a with q := q', n := n', S := S' }) := by
  rcases m with ⟨e, k, hn, hS⟩ | ⟨p, e, hs, hc⟩
  · have h' := h.low k
    obtain ⟨cur, hcr, hsz, r⟩ := h'.bb
    refine ⟨⟨cur, hcr, hsz, fun i hi => ?_⟩, fun i hi => ?_, fun i hi => ?_, fun i j hi hj hij p p' e1 e2 => ?_, fun i hi p e1 => ?_, h'.lo, h'.hB, h'.t0⟩
    · by_cases c : i = a
      · subst c; rw [upd_same]; exact r i hi
      · rw [upd_other _ _ c]; exact r i hi
    · by_cases c : i = a
      · subst c; rw [upd_same]; exact Or.inl ⟨e, hn, hS⟩
      · rw [upd_other _ _ c]; exact h'.so i hi
    · by_cases c : i = a
      · subst c; rw [upd_same]; exact h'.ow i hi
      · rw [upd_other _ _ c]; exact h'.ow i hi
    · by_cases c : i = a
      · subst c; rw [upd_same] at e1; rw [e] at e1; cases e1
      · by_cases d : j = a
        · subst d; rw [upd_same] at e2; rw [e] at e2; cases e2
        · rw [upd_other _ _ c] at e1 ⊢; rw [upd_other _ _ d] at e2 ⊢; exact h'.ap i j hi hj hij p p' e1 e2
    · by_cases c : i = a
      · subst c; rw [upd_same] at e1; rw [e] at e1; cases e1
      · rw [upd_other _ _ c] at e1 ⊢; exact h'.fa i hi p e1
  · have hsa := h.so a ha
    rw [e] at hsa
    obtain ⟨cp, hp⟩ := hsa.at'.bp
    obtain ⟨cq, hq⟩ := hsa.at'.bq
    obtain ⟨cur, hcr, hsz, r⟩ := h.bb
    have key : ∃ k, Chg k W W' ∧ (k = (st a).q ∨ k = p) ∧ (q' = (st a).q ∨ q' = W.heap.size) ∧ (k = (st a).q ∨ q' = W.heap.size) := by
      rcases hc with ⟨c, e'⟩ | ⟨c, e'⟩
      · exact ⟨_, c, Or.inl rfl, Or.inl e', Or.inl rfl⟩
      · exact ⟨_, c, Or.inr rfl, Or.inr e', Or.inr e'⟩
    obtain ⟨k, c, hk, hq', _⟩ := key
    have hkw : w0.heap.size ≤ k := by
      have := h.fa a ha p e
      rcases hk with rfl | rfl
      · exact this.2
      · exact this.1
    have hkB : k ≠ B := by
      rcases hk with rfl | rfl
      · exact kinds_ne hq hcr (by decide)
      · exact kinds_ne hp hcr (by decide)
    have hko : ∀ i, i < 4 → (st i).lv.ownBlock ≠ some k := fun i hi e' => by
      obtain ⟨cs, hg⟩ := (h.ow i hi).kind e'
      rcases hk with rfl | rfl
      · exact kinds_ne hg hq (by decide) rfl
      · exact kinds_ne hg hp (by decide) rfl
    have hoth : ∀ i, i < 4 → i ≠ a → SO W' (st i).v (st i).q (st i).n (st i).S := fun i hi hia => by
      have s := h.so i hi
      rcases s with s | ⟨p', e', s⟩
      · exact Or.inl s
      · refine Or.inr ⟨p', e', ?_⟩
        obtain ⟨cp', hp'⟩ := s.bp
        obtain ⟨cq', hq''⟩ := s.bq
        have ap := h.ap i a hi ha hia p' p e' e
        refine s.keep c ?_ ?_
        · rcases hk with rfl | rfl
          · exact kinds_ne hp' hq (by decide)
          · exact ap.1
        · rcases hk with rfl | rfl
          · exact ap.2
          · exact kinds_ne hq'' hp (by decide)
    have hqs : w0.heap.size ≤ q' := by
      rcases hq' with rfl | rfl
      · exact (h.fa a ha p e).2
      · exact h.lo.size
    refine ⟨⟨cur, (c.block B h.lt (fun e => hkB e.symm)).trans hcr, hsz, fun i hi => ?_⟩, fun i hi => ?_, fun i hi => ?_, fun i j hi hj hij p1 p2 e1 e2 => ?_, fun i hi p1 e1 => ?_, Chg.below h.lo c hkw h.lo.size, h.hB, h.t0⟩
    · by_cases d : i = a
      · subst d; rw [upd_same]; exact r i hi
      · rw [upd_other _ _ d]; exact r i hi
    · by_cases d : i = a
      · subst d; rw [upd_same]; exact Or.inr ⟨p, e, hs⟩
      · rw [upd_other _ _ d]; exact hoth i hi d
    · by_cases d : i = a
      · subst d; rw [upd_same]; exact own_keep (h.ow i hi) c (hko i hi)
      · rw [upd_other _ _ d]; exact own_keep (h.ow i hi) c (hko i hi)
    · by_cases d : i = a
      · subst d
        rw [upd_same] at e1 ⊢
        rw [upd_other _ _ (fun x => hij x.symm)] at e2 ⊢
        have ap := h.ap i j hi hj hij p1 p2 e1 e2
        refine ⟨ap.1, ?_⟩
        rcases hq' with hq' | hq'
        · show q' ≠ _; rw [hq']; exact ap.2
        · have := (h.lts hj e2).2
          show q' ≠ _; omega
      · rw [upd_other _ _ d] at e1 ⊢
        by_cases d2 : j = a
        · subst d2
          rw [upd_same] at e2 ⊢
          have ap := h.ap i j hi hj hij p1 p2 e1 e2
          refine ⟨ap.1, ?_⟩
          rcases hq' with hq' | hq'
          · show _ ≠ q'; rw [hq']; exact ap.2
          · have := (h.lts hi e1).2
            show _ ≠ q'; omega
        · rw [upd_other _ _ d2] at e2 ⊢
          exact h.ap i j hi hj hij p1 p2 e1 e2
    · by_cases d : i = a
      · subst d; rw [upd_same] at e1 ⊢; exact ⟨(h.fa i hi p1 e1).1, hqs⟩
      · rw [upd_other _ _ d] at e1 ⊢; exact h.fa i hi p1 e1
/-- The Regs' own cells turn. -/
theorem Rg.put {w0 W W' : World} {B : Nat} {st st' : Nat → RSt} (h : Rg w0 W B st) (c : Chg B W W') (bb : ∃ cur : Array Value, W'.heap[B]? = some (.cells cur 33 (0, 0)) ∧ cur.size = 16 ∧ ∀ i, i < 4 → cur[i]? = some (st' i).v ∧ cur[4 + i * 2]? = some (.int .i64 ((st' i).rn : Int)) ∧ cur[4 + i * 2 + 1]? = some (st' i).lv ∧ cur[12 + i]? = some (.bool (st' i).nil))
    (so : ∀ i, i < 4 → SO W (st' i).v (st' i).q (st' i).n (st' i).S) (ow : ∀ i, i < 4 → OwnI W 0 (st' i).lv (st' i).ms)
    (ap : ∀ i j, i < 4 → j < 4 → i ≠ j → ∀ p p', (st' i).v = .pointer (some ⟨p, 0, none⟩) → (st' j).v = .pointer (some ⟨p', 0, none⟩) → p ≠ p' ∧ (st' i).q ≠ (st' j).q)
    (fa : ∀ i, i < 4 → ∀ p, (st' i).v = .pointer (some ⟨p, 0, none⟩) → w0.heap.size ≤ p ∧ w0.heap.size ≤ (st' i).q) : Rg w0 W' B st' := by
  obtain ⟨cur, hcr, hsz, r⟩ := h.bb
  refine ⟨bb, fun i hi => ?_, fun i hi => ?_, ap, fa, Chg.below h.lo c h.hB h.lo.size, h.hB, h.t0⟩
  · rcases so i hi with s | ⟨p, e, s⟩
    · exact Or.inl s
    · obtain ⟨cp, hp⟩ := s.bp
      obtain ⟨cq, hq⟩ := s.bq
      exact Or.inr ⟨p, e, s.keep c (kinds_ne hp hcr (by decide)) (kinds_ne hq hcr (by decide))⟩
  · refine own_keep (ow i hi) c fun e => ?_
    obtain ⟨cs, hg⟩ := (ow i hi).kind e
    exact kinds_ne hg hcr (by decide) rfl
/-- The document's set is put. -/
theorem Rg.setR {w0 W : World} {B : Nat} {st : Nat → RSt} (h : Rg w0 W B st) {a : Nat} (ha : a < 4) {rn : Nat} {lv : Value} {ms : List Int} (ho : OwnI W 0 lv ms) :
    Rg w0 ((W.setCell ⟨B, 4 + a * 2, none⟩ (.int .i64 (rn : Int))).setCell ⟨B, 4 + a * 2 + 1, none⟩ lv) B (upd st a { st a with rn := rn, lv := lv, ms := ms }) := by
  obtain ⟨cur, hcr, hsz, r⟩ := h.bb
  have e1 := heap_setCell_same W B (4 + a * 2) cur _ (.int .i64 (rn : Int)) hcr
  have e2 := heap_setCell_same (W.setCell ⟨B, 4 + a * 2, none⟩ (.int .i64 (rn : Int))) B (4 + a * 2 + 1) _ _ lv e1
  refine h.put ((Chg.setCell _ _).trans (Chg.setCell _ _)) ⟨_, e2, by simp [hsz], fun i hi => ?_⟩ (fun i hi => ?_) (fun i hi => ?_) (fun i j hi hj hij p p' e1 e2 => ?_) (fun i hi p e1 => ?_)
  · obtain ⟨r1, r2, r3, r4⟩ := r i hi
    by_cases d : i = a
    · subst d
      rw [upd_same]
      refine ⟨?_, ?_, ?_, ?_⟩
      · rw [Array.getElem?_setIfInBounds_ne (by omega), Array.getElem?_setIfInBounds_ne (by omega)]; exact r1
      · rw [Array.getElem?_setIfInBounds_ne (by omega), Array.getElem?_setIfInBounds_self_of_lt (by omega)]
      · rw [Array.getElem?_setIfInBounds_self_of_lt (by simp; omega)]
      · rw [Array.getElem?_setIfInBounds_ne (by omega), Array.getElem?_setIfInBounds_ne (by omega)]; exact r4
    · rw [upd_other _ _ d]
      refine ⟨?_, ?_, ?_, ?_⟩
      · rw [Array.getElem?_setIfInBounds_ne (by omega), Array.getElem?_setIfInBounds_ne (by omega)]; exact r1
      · rw [Array.getElem?_setIfInBounds_ne (by omega), Array.getElem?_setIfInBounds_ne (by omega)]; exact r2
      · rw [Array.getElem?_setIfInBounds_ne (by omega), Array.getElem?_setIfInBounds_ne (by omega)]; exact r3
      · rw [Array.getElem?_setIfInBounds_ne (by omega), Array.getElem?_setIfInBounds_ne (by omega)]; exact r4
  · by_cases d : i = a
    · subst d; rw [upd_same]; exact h.so i hi
    · rw [upd_other _ _ d]; exact h.so i hi
  · by_cases d : i = a
    · subst d; rw [upd_same]; exact ho
    · rw [upd_other _ _ d]; exact h.ow i hi
  · have f : ∀ j, (upd st a { st a with rn := rn, lv := lv, ms := ms } j).v = (st j).v ∧ (upd st a { st a with rn := rn, lv := lv, ms := ms } j).q = (st j).q := fun j => by
      by_cases d : j = a
      · subst d; rw [upd_same]; exact ⟨rfl, rfl⟩
      · rw [upd_other _ _ d]; exact ⟨rfl, rfl⟩
    rw [(f i).1] at e1; rw [(f j).1] at e2; rw [(f i).2, (f j).2]
    exact h.ap i j hi hj hij p p' e1 e2
  · by_cases d : i = a
    · subst d; rw [upd_same] at e1 ⊢; exact h.fa i hi p e1
    · rw [upd_other _ _ d] at e1 ⊢; exact h.fa i hi p e1
/-- The program's set, the document's and the mark are put. -/
theorem Rg.setA {w0 W : World} {B : Nat} {st : Nat → RSt} (h : Rg w0 W B st) {a : Nat} (ha : a < 4) (x : RSt) (hs : SO W x.v x.q x.n x.S) (ho : OwnI W 0 x.lv x.ms) (hL : ∀ p, x.v = .pointer (some ⟨p, 0, none⟩) → w0.heap.size ≤ p ∧ w0.heap.size ≤ x.q ∧ ∀ i, i < 4 → i ≠ a → ∀ p', (st i).v = .pointer (some ⟨p', 0, none⟩) → p' ≠ p ∧ (st i).q ≠ x.q) :
    Rg w0 ((((W.setCell ⟨B, a, none⟩ x.v).setCell ⟨B, 4 + a * 2, none⟩ (.int .i64 (x.rn : Int))).setCell ⟨B, 4 + a * 2 + 1, none⟩ x.lv).setCell ⟨B, 12 + a, none⟩ (.bool x.nil)) B (upd st a x) := by
  obtain ⟨cur, hcr, hsz, r⟩ := h.bb
  have k0 := heap_setCell_same W B a cur _ x.v hcr
  have k1 := heap_setCell_same _ B (4 + a * 2) _ _ (.int .i64 (x.rn : Int)) k0
  have k2 := heap_setCell_same _ B (4 + a * 2 + 1) _ _ x.lv k1
  have k3 := heap_setCell_same _ B (12 + a) _ _ (.bool x.nil) k2
  refine h.put ((((Chg.setCell _ _).trans (Chg.setCell _ _)).trans (Chg.setCell _ _)).trans (Chg.setCell _ _)) ⟨_, k3, by simp [hsz], fun i hi => ?_⟩ (fun i hi => ?_) (fun i hi => ?_) (fun i j hi hj hij p p' e1 e2 => ?_) (fun i hi p e1 => ?_)
  · obtain ⟨r1, r2, r3, r4⟩ := r i hi
    by_cases d : i = a
    · subst d
      rw [upd_same]
      refine ⟨?_, ?_, ?_, ?_⟩
      · rw [Array.getElem?_setIfInBounds_ne (by omega), Array.getElem?_setIfInBounds_ne (by omega), Array.getElem?_setIfInBounds_ne (by omega), Array.getElem?_setIfInBounds_self_of_lt (by omega)]
      · rw [Array.getElem?_setIfInBounds_ne (by omega), Array.getElem?_setIfInBounds_ne (by omega), Array.getElem?_setIfInBounds_self_of_lt (by simp; omega)]
      · rw [Array.getElem?_setIfInBounds_ne (by omega), Array.getElem?_setIfInBounds_self_of_lt (by simp; omega)]
      · rw [Array.getElem?_setIfInBounds_self_of_lt (by simp; omega)]
    · rw [upd_other _ _ d]
      have q : ∀ k, k ≠ a → k ≠ 4 + a * 2 → k ≠ 4 + a * 2 + 1 → k ≠ 12 + a → ((((cur.setIfInBounds a x.v).setIfInBounds (4 + a * 2) (.int .i64 (x.rn : Int))).setIfInBounds (4 + a * 2 + 1) x.lv).setIfInBounds (12 + a) (.bool x.nil))[k]? = cur[k]? := fun k h1 h2 h3 h4 => by
        rw [Array.getElem?_setIfInBounds_ne (fun e => h4 e.symm), Array.getElem?_setIfInBounds_ne (fun e => h3 e.symm), Array.getElem?_setIfInBounds_ne (fun e => h2 e.symm), Array.getElem?_setIfInBounds_ne (fun e => h1 e.symm)]
      exact ⟨(q _ (by omega) (by omega) (by omega) (by omega)).trans r1, (q _ (by omega) (by omega) (by omega) (by omega)).trans r2, (q _ (by omega) (by omega) (by omega) (by omega)).trans r3, (q _ (by omega) (by omega) (by omega) (by omega)).trans r4⟩
  · by_cases d : i = a
    · subst d; rw [upd_same]; exact hs
    · rw [upd_other _ _ d]; exact h.so i hi
  · by_cases d : i = a
    · subst d; rw [upd_same]; exact ho
    · rw [upd_other _ _ d]; exact h.ow i hi
  · by_cases d : i = a
    · subst d
      rw [upd_same] at e1 ⊢
      rw [upd_other _ _ (fun x => hij x.symm)] at e2 ⊢
      have := (hL p e1).2.2 j hj (fun x => hij x.symm) p' e2
      exact ⟨fun c => this.1 c.symm, fun c => this.2 c.symm⟩
    · rw [upd_other _ _ d] at e1 ⊢
      by_cases d2 : j = a
      · subst d2
        rw [upd_same] at e2 ⊢
        exact (hL p' e2).2.2 i hi d p e1
      · rw [upd_other _ _ d2] at e2 ⊢
        exact h.ap i j hi hj hij p p' e1 e2
  · by_cases d : i = a
    · subst d; rw [upd_same] at e1 ⊢; exact ⟨(hL p e1).1, (hL p e1).2.1⟩
    · rw [upd_other _ _ d] at e1 ⊢; exact h.fa i hi p e1
end Go.Proofs.YtkagdmhijjfnnaaDoor
