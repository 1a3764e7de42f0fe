import Derived.Test.YtdhjoimiejdgbabDoorSen
import Derived.Test.YtdhjoimiejdgbabDoorMgN
namespace Go.Proofs.YtdhjoimiejdgbabDoor.L
open Go.RowKit Bs Go.Maps
set_option linter.unusedVariables false
/-- One of the four: the table, the document's. -/
structure St where
  pv : Value
  m : Nat
  l : List Rw
  F : List Nat
  mo : Int
  v : Value
  d : List Dr
def upd (st : Nat → St) (i : Nat) (x : St) : Nat → St := fun j => if j = i then x else st j
theorem upd_same (st : Nat → St) (i : Nat) (x : St) : upd st i x i = x := if_pos rfl
theorem upd_other (st : Nat → St) {i j : Nat} (x : St) (h : j ≠ i) : upd st i x j = st j := if_neg h
theorem Tb.kinds {w : World} {p m : Nat} {l : List Rw} {F : List Nat} (h : Tb w p m l F) {k : Nat} (hk : k ∈ F) : (∃ es c, w.heap[k]? = some (.map es c)) ∨ ∃ cur t, w.heap[k]? = some (.cells cur t (0, 0)) ∧ (t = 61 ∨ t = 65 ∨ t = 85) := by
  obtain ⟨mb, rs, ks, D, ws, h1, h2, rfl⟩ := h
  unfold fp at hk
  simp at hk
  rcases hk with rfl | rfl | hk | hk
  · exact Or.inr ⟨_, _, h1.hp, Or.inl rfl⟩
  · obtain ⟨es, clock, hb, _⟩ := h1.hm
    exact Or.inl ⟨es, clock, hb⟩
  · rcases h1.hr.2 with ⟨e, _⟩ | ⟨g', cap, cur, e, _, hh, _⟩
    · rw [e] at hk; simp [Value.ownBlock] at hk
    · rw [e] at hk; simp [Value.ownBlock] at hk; subst hk; exact Or.inr ⟨cur, _, hh, Or.inr (Or.inl rfl)⟩
  · rcases h1.hk.2 with ⟨e, _⟩ | ⟨g', cap, cur, e, _, hh, _⟩
    · rw [e] at hk; simp [Value.ownBlock] at hk
    · rw [e] at hk; simp [Value.ownBlock] at hk; subst hk; exact Or.inr ⟨cur, _, hh, Or.inr (Or.inr rfl)⟩
theorem Tq.kinds {w : World} {pv : Value} {m : Nat} {l : List Rw} {F : List Nat} (h : Tq w pv m l F) {k : Nat} (hk : k ∈ F) : (∃ es c, w.heap[k]? = some (.map es c)) ∨ ∃ cur t, w.heap[k]? = some (.cells cur t (0, 0)) ∧ (t = 61 ∨ t = 65 ∨ t = 85) := by
  rcases h with ⟨_, _, rfl, _⟩ | ⟨p, e, h⟩
  · cases hk
  · exact h.kinds hk
theorem Tq.not {w : World} {pv : Value} {m : Nat} {l : List Rw} {F : List Nat} (h : Tq w pv m l F) {g : Nat} {cur : Array Value} {t : TypeId} (hg : w.heap[g]? = some (.cells cur t (0, 0))) (ht : t ≠ 61 ∧ t ≠ 65 ∧ t ≠ 85) : g ∉ F := fun hk => by
  rcases h.kinds hk with ⟨es, c, e⟩ | ⟨cur', t', e, ht'⟩
  · rw [hg] at e; cases e
  · rw [hg] at e
    injection e with e
    injection e with _ e2 _
    rcases ht' with q | q | q
    · exact ht.1 (e2.trans q)
    · exact ht.2.1 (e2.trans q)
    · exact ht.2.2 (e2.trans q)
theorem OwnD.kind {w : World} {v : Value} {d : List Dr} (h : OwnD w v d) {g : Nat} (hg : v.ownBlock = some g) : ∃ cur, w.heap[g]? = some (.cells cur 77 (0, 0)) := by
  rcases h.2 with ⟨e, _⟩ | ⟨g', cap, cur, e, _, hh, _⟩
  · rw [e] at hg; simp [Value.ownBlock] at hg
  · rw [e] at hg; simp [Value.ownBlock] at hg; subst hg; exact ⟨cur, hh⟩
/-- The law's World in memory: four tables beside the document's. -/
structure Wh (w0 w : World) (B : Nat) (G : List Nat) (st : Nat → St) : Prop where
  bb : ∃ cur : Array Value, w.heap[B]? = some (.cells cur 52 (0, 0)) ∧ cur.size = 12 ∧ ∀ i, i < 4 → cur[i]? = some (st i).pv ∧ cur[4 + i * 2]? = some (.int .i64 (st i).mo) ∧ cur[4 + i * 2 + 1]? = some (st i).v
  tq : ∀ i, i < 4 → Tq w (st i).pv (st i).m (st i).l (st i).F
  od : ∀ i, i < 4 → OwnD w (st i).v (st i).d
  ap : ∀ i j, i < 4 → j < 4 → i ≠ j → ∀ k ∈ (st i).F, k ∉ (st j).F
  lo : Bx G w0.heap.size w0 w
  hB : B ∈ G ∨ w0.heap.size ≤ B
  fa : ∀ i, i < 4 → ∀ k ∈ (st i).F, w0.heap.size ≤ k ∨ k ∈ G
theorem Wh.lt {w0 w : World} {B : Nat} {G : List Nat} {st : Nat → St} (h : Wh w0 w B G st) : B < w.heap.size := by
  obtain ⟨cur, hc, _⟩ := h.bb
  exact lt_of_block hc
theorem Wh.low {w0 w w' : World} {B : Nat} {G : List Nat} {st : Nat → St} (h : Wh w0 w B G st) (hb : Below w.heap.size w w') : Wh w0 w' B G st := by
  obtain ⟨cur, hc, r⟩ := h.bb
  exact ⟨⟨cur, (hb.block B h.lt).trans hc, r⟩, fun i hi => (h.tq i hi).low hb, fun i hi => (h.od i hi).low hb, h.ap, h.lo.trans (Bx.of (hb.mono h.lo.size)), h.hB, h.fa⟩
theorem Wh.notB {w0 w : World} {B : Nat} {G : List Nat} {st : Nat → St} (h : Wh w0 w B G st) {i : Nat} (hi : i < 4) : B ∉ (st i).F := by
  obtain ⟨cur, hc, _⟩ := h.bb
  exact (h.tq i hi).not hc (by decide)
theorem Wh.notV {w0 w : World} {B : Nat} {G : List Nat} {st : Nat → St} (h : Wh w0 w B G st) {i j : Nat} (hi : i < 4) (hj : j < 4) {g : Nat} (hg : (st j).v.ownBlock = some g) : g ∉ (st i).F ∧ g ≠ B := by
  obtain ⟨cur, hc⟩ := (h.od j hj).kind hg
  obtain ⟨cur', hc', _⟩ := h.bb
  refine ⟨(h.tq i hi).not hc (by decide), fun e => ?_⟩
  subst e
  rw [hc] at hc'
  injection hc' with e
  injection e with _ e2 _
  exact absurd e2 (by decide)
theorem Wh.cells {w0 w : World} {B : Nat} {G : List Nat} {st : Nat → St} (h : Wh w0 w B G st) {i : Nat} (hi : i < 4) : w.cell? ⟨B, i, none⟩ = some (st i).pv ∧ w.cell? ⟨B, 4 + i * 2, none⟩ = some (.int .i64 (st i).mo) ∧ w.cell? ⟨B, 4 + i * 2 + 1, none⟩ = some (st i).v := by
  obtain ⟨cur, hc, _, r⟩ := h.bb
  obtain ⟨r1, r2, r3⟩ := r i hi
  exact ⟨by rw [cell_of_row w B _ _ _ _ hc]; exact r1, by rw [cell_of_row w B _ _ _ _ hc]; exact r2, by rw [cell_of_row w B _ _ _ _ hc]; exact r3⟩
theorem Wh.fz {w0 w : World} {B : Nat} {G : List Nat} {st : Nat → St} (h : Wh w0 w B G st) (j : Nat) : w.frozen? ⟨B, j, none⟩ = false := by
  obtain ⟨cur, hc, _⟩ := h.bb
  exact frozen_of_row w B j _ _ hc
/-- A call that changes table i alone. -/
theorem Wh.mv {w0 w w' : World} {B : Nat} {G : List Nat} {st : Nat → St} (h : Wh w0 w B G st) {i : Nat} (hi : i < 4) {l' : List Rw} {F' : List Nat} (T : Tq w' (st i).pv (st i).m l' F') (M : Mv (st i).F F' w w') :
    Wh w0 w' B G (upd st i { st i with l := l', F := F' }) := by
  obtain ⟨cur, hc, hs, r⟩ := h.bb
  have hblk : ∀ k, k < w.heap.size → k ∉ (st i).F → w'.heap[k]? = w.heap[k]? := fun k h1 h2 => M.1.block k h1 h2
  have lo2 : Bx G w0.heap.size w w' := M.1.mono h.lo.size (fun k hk => (h.fa i hi k hk).symm)
  refine ⟨⟨cur, (hblk B h.lt (h.notB hi)).trans hc, hs, fun j hj => ?_⟩, fun j hj => ?_, fun j hj => ?_, fun a b ha hb hab k hk => ?_, h.lo.trans lo2, h.hB, fun j hj k hk => ?_⟩
  · by_cases e : j = i
    · subst e; rw [upd_same]; exact r j hj
    · rw [upd_other _ _ e]; exact r j hj
  · by_cases e : j = i
    · subst e; rw [upd_same]; exact T
    · rw [upd_other _ _ e]
      exact (h.tq j hj).frame (fun k hk => hblk k ((h.tq j hj).lt k hk) (h.ap j i hj hi e k hk))
  · have : OwnD w' (st j).v (st j).d := own_stays (h.od j hj) (fun g hg => hblk g ((h.od j hj).lt g hg).2 (h.notV hi hj hg).1)
    by_cases e : j = i
    · subst e; rw [upd_same]; exact this
    · rw [upd_other _ _ e]; exact this
  · by_cases ea : a = i
    · subst ea
      rw [upd_same] at hk
      rw [upd_other _ _ (fun c => hab c.symm)]
      rcases M.2 k hk with c | c
      · exact h.ap a b ha hb hab k c
      · intro d
        have := (h.tq b hb).lt k d
        omega
    · rw [upd_other _ _ ea] at hk
      by_cases eb : b = i
      · subst eb
        rw [upd_same]
        intro d
        rcases M.2 k d with c | c
        · exact h.ap a b ha hb hab k hk c
        · have := (h.tq a ha).lt k hk
          omega
      · rw [upd_other _ _ eb]; exact h.ap a b ha hb hab k hk
  · by_cases e : j = i
    · subst e
      rw [upd_same] at hk
      rcases M.2 k hk with c | c
      · exact h.fa j hj k c
      · exact Or.inl (Nat.le_trans h.lo.size c)
    · rw [upd_other _ _ e] at hk
      exact h.fa j hj k hk
theorem cellSet {w : World} {B : Nat} {cur : Array Value} {t : TypeId} (h : w.heap[B]? = some (.cells cur t (0, 0))) (o : Nat) (v : Value) : (w.setCell ⟨B, o, none⟩ v).heap[B]? = some (.cells (cur.setIfInBounds o v) t (0, 0)) := set_block v h
/-- The document's table i is written. -/
theorem Wh.setM {w0 w : World} {B : Nat} {G : List Nat} {st : Nat → St} (h : Wh w0 w B G st) {i : Nat} (hi : i < 4) {mo' : Int} {v' : Value} {d' : List Dr} (O : OwnD w v' d') :
    Wh w0 ((w.setCell ⟨B, 4 + i * 2, none⟩ (.int .i64 mo')).setCell ⟨B, 4 + i * 2 + 1, none⟩ v') B G (upd st i { st i with mo := mo', v := v', d := d' }) := by
  obtain ⟨cur, hc, hs, r⟩ := h.bb
  have hne : ∀ k, k ≠ B → ((w.setCell ⟨B, 4 + i * 2, none⟩ (.int .i64 mo')).setCell ⟨B, 4 + i * 2 + 1, none⟩ v').heap[k]? = w.heap[k]? := fun k hk => by
    rw [set_other _ _ hk, set_other _ _ hk]
  have OB : ∀ {v : Value} {d : List Dr}, OwnD w v d → OwnD ((w.setCell ⟨B, 4 + i * 2, none⟩ (.int .i64 mo')).setCell ⟨B, 4 + i * 2 + 1, none⟩ v') v d := fun {v d} o => own_stays o (fun g hg => hne g (fun e => by
    subst e
    obtain ⟨cur2, hc2⟩ := o.kind hg
    rw [hc] at hc2
    injection hc2 with e
    injection e with _ e2 _
    exact absurd e2 (by decide)))
  refine ⟨⟨_, cellSet (cellSet hc _ _) _ _, by simpa using hs, fun j hj => ?_⟩, fun j hj => ?_, fun j hj => ?_, fun a b ha hb hab k hk => ?_, ?_, h.hB, fun j hj k hk => ?_⟩
  · obtain ⟨r1, r2, r3⟩ := r j hj
    by_cases e : j = i
    · subst e
      rw [upd_same]
      refine ⟨?_, ?_, ?_⟩
      · rw [Array.getElem?_setIfInBounds_ne (by omega), Array.getElem?_setIfInBounds_ne (by omega)]; exact r1
      · rw [Array.getElem?_setIfInBounds_ne (by omega), Array.getElem?_setIfInBounds_self_of_lt (by omega)]
      · rw [Array.getElem?_setIfInBounds_self_of_lt (by simp; omega)]
    · rw [upd_other _ _ e]
      refine ⟨?_, ?_, ?_⟩
      · rw [Array.getElem?_setIfInBounds_ne (by omega), Array.getElem?_setIfInBounds_ne (by omega)]; exact r1
      · rw [Array.getElem?_setIfInBounds_ne (by omega), Array.getElem?_setIfInBounds_ne (by omega)]; exact r2
      · rw [Array.getElem?_setIfInBounds_ne (by omega), Array.getElem?_setIfInBounds_ne (by omega)]; exact r3
  · have T : Tq ((w.setCell ⟨B, 4 + i * 2, none⟩ (.int .i64 mo')).setCell ⟨B, 4 + i * 2 + 1, none⟩ v') (st j).pv (st j).m (st j).l (st j).F := (h.tq j hj).frame (fun k hk => hne k (fun e => by subst e; exact h.notB hj hk))
    by_cases e : j = i
    · subst e; rw [upd_same]; exact T
    · rw [upd_other _ _ e]; exact T
  · by_cases e : j = i
    · subst e; rw [upd_same]; exact OB O
    · rw [upd_other _ _ e]; exact OB (h.od j hj)
  · have hF : ∀ j, (upd st i { st i with mo := mo', v := v', d := d' } j).F = (st j).F := fun j => by
      by_cases e : j = i
      · subst e; rw [upd_same]
      · rw [upd_other _ _ e]
    rw [hF] at hk ⊢
    exact h.ap a b ha hb hab k hk
  · exact (h.lo.setCell (p := ⟨B, 4 + i * 2, none⟩) h.hB _).setCell (p := ⟨B, 4 + i * 2 + 1, none⟩) h.hB _
  · by_cases e : j = i
    · subst e; rw [upd_same] at hk; exact h.fa j hj k hk
    · rw [upd_other _ _ e] at hk; exact h.fa j hj k hk
/-- Another table takes place i. -/
theorem Wh.setT {w0 w : World} {B : Nat} {G : List Nat} {st : Nat → St} (h : Wh w0 w B G st) {i : Nat} (hi : i < 4) {pv' : Value} {m' : Nat} {l' : List Rw} {F' : List Nat} (T : Tq w pv' m' l' F') (hd : ∀ j, j < 4 → ∀ k ∈ F', k ∉ (st j).F) (hf : ∀ k ∈ F', w0.heap.size ≤ k ∨ k ∈ G) :
    Wh w0 (w.setCell ⟨B, i, none⟩ pv') B G (upd st i { st i with pv := pv', m := m', l := l', F := F' }) := by
  obtain ⟨cur, hc, hs, r⟩ := h.bb
  have hne : ∀ k, k ≠ B → (w.setCell ⟨B, i, none⟩ pv').heap[k]? = w.heap[k]? := fun k hk => set_other _ _ hk
  have OB : ∀ {v : Value} {d : List Dr}, OwnD w v d → OwnD (w.setCell ⟨B, i, none⟩ pv') v d := fun {v d} o => own_stays o (fun g hg => hne g (fun e => by
    subst e
    obtain ⟨cur2, hc2⟩ := o.kind hg
    rw [hc] at hc2
    injection hc2 with e
    injection e with _ e2 _
    exact absurd e2 (by decide)))
  refine ⟨⟨_, cellSet hc _ _, by simpa using hs, fun j hj => ?_⟩, fun j hj => ?_, fun j hj => ?_, fun a b ha hb hab k hk => ?_, ?_, h.hB, fun j hj k hk => ?_⟩
  · obtain ⟨r1, r2, r3⟩ := r j hj
    by_cases e : j = i
    · subst e
      rw [upd_same]
      refine ⟨?_, ?_, ?_⟩
      · rw [Array.getElem?_setIfInBounds_self_of_lt (by omega)]
      · rw [Array.getElem?_setIfInBounds_ne (by omega)]; exact r2
      · rw [Array.getElem?_setIfInBounds_ne (by omega)]; exact r3
    · rw [upd_other _ _ e]
      refine ⟨?_, ?_, ?_⟩
      · rw [Array.getElem?_setIfInBounds_ne (by omega)]; exact r1
      · rw [Array.getElem?_setIfInBounds_ne (by omega)]; exact r2
      · rw [Array.getElem?_setIfInBounds_ne (by omega)]; exact r3
  · by_cases e : j = i
    · subst e
      rw [upd_same]
      exact T.frame (fun k hk => hne k (fun e => by subst e; exact T.not hc (by decide) hk))
    · rw [upd_other _ _ e]
      exact (h.tq j hj).frame (fun k hk => hne k (fun e => by subst e; exact h.notB hj hk))
  · by_cases e : j = i
    · subst e; rw [upd_same]; exact OB (h.od j hj)
    · rw [upd_other _ _ e]; exact OB (h.od j hj)
  · by_cases ea : a = i
    · subst ea
      rw [upd_same] at hk
      rw [upd_other _ _ (fun c => hab c.symm)]
      exact hd b hb k hk
    · rw [upd_other _ _ ea] at hk
      by_cases eb : b = i
      · subst eb
        rw [upd_same]
        intro d
        exact hd a ha k d hk
      · rw [upd_other _ _ eb]; exact h.ap a b ha hb hab k hk
  · exact h.lo.setCell (p := ⟨B, i, none⟩) h.hB _
  · by_cases e : j = i
    · subst e; rw [upd_same] at hk; exact hf k hk
    · rw [upd_other _ _ e] at hk; exact h.fa j hj k hk
/-- The table of the bits stays. -/
def TabG (w0 : World) (G : List Nat) : Prop := ∀ W, Bx G w0.heap.size w0 W → Tab W
/-- The four are as the document says. -/
def Re (st : Nat → St) : Prop := ∀ i, i < 4 → Rel (st i).l (st i).d ∧ ((st i).pv = .pointer none ∨ (st i).mo = ((st i).m : Int))
theorem Re.upd {st : Nat → St} (h : Re st) {i : Nat} {x : St} (hr : Rel x.l x.d) (hm : x.pv = .pointer none ∨ x.mo = (x.m : Int)) : Re (upd st i x) := fun j hj => by
  by_cases e : j = i
  · subst e; rw [upd_same]; exact ⟨hr, hm⟩
  · rw [upd_other _ _ e]; exact h j hj
theorem upd_twice (st : Nat → St) (i : Nat) (x y : St) : upd (upd st i x) i y = upd st i y := funext fun j => by
  unfold L.upd
  split <;> rfl
end Go.Proofs.YtdhjoimiejdgbabDoor.L
