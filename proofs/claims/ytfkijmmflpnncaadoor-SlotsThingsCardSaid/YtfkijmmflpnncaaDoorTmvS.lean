import Derived.Test.YtfkijmmflpnncaaDoorTmv
import Derived.Test.YtfkijmmflpnncaaDoorMgAO
import Derived.Test.YtfkijmmflpnncaaDoorMgAB
import Derived.Maps.AppendAt
import Derived.RegionTactic
import Derived.BigRegion
namespace Go.Proofs.YtfkijmmflpnncaaDoor.LS
open L
open Go.RowKit Bs Go.Maps
set_option linter.unusedVariables false
section
variable {w : World} {p m mb : Nat} {rs ks : Value} {D : DataW Unit} {l : List Rw} {ws : List Nat}
theorem Tm.drewN (h : Tm w p m mb rs ks D l ws) (n : Nat) : Tm (w.drewN n) p m mb rs ks D l ws := h.frame (fun _ _ => rfl)
theorem Tm.low (h : Tm w p m mb rs ks D l ws) {w' : World} (hb : Below w.heap.size w w') : Tm w' p m mb rs ks D l ws := h.frame (fun k hk => hb.block k (h.lt k hk))
theorem Tm.alloc (h : Tm w p m mb rs ks D l ws) (o : Obj) : Tm (w.alloc o) p m mb rs ks D l ws := h.low ((Below.refl _ _).alloc (Nat.le_refl _) _)
/-- Another row of words. -/
theorem Tm.growK (h : Tm w p m mb rs ks D l ws) {w2 : World} {v : Value} {ws' : List Nat} (hg : w.grownBy w2 ks.ownBlock) (ho : OwnK w2 v ws') (hl : v.ownBlock = ks.ownBlock ∨ v.ownBlock = some w.heap.size) :
    Tm (w2.setCell ⟨p, 3, none⟩ v) p m mb rs v D l ws' := by
  obtain ⟨a1, a2, a3⟩ := h.ap
  have hlt := h.lt
  have pl : p < w.heap.size := hlt p (by simp [fp])
  have ml : mb < w.heap.size := hlt mb (by simp [fp])
  have kp : some p ≠ ks.ownBlock := fun e => (a3 p e.symm).1 rfl
  have km : some mb ≠ ks.ownBlock := fun e => (a3 mb e.symm).2.1 rfl
  refine ⟨?_, ?_, ?_, ?_⟩
  · exact set_block v ((hg.block p pl kp).trans h.hp)
  · exact owns_stays h.hm ((set_other _ _ (fun e => a1 e.symm)).trans (hg.block mb ml km))
  · exact own_stays h.hr (fun g hgg => (set_other _ _ (a2 g hgg).1).trans (hg.block g (h.hr.lt g hgg).2 (fun e => (a2 g hgg).2.2 e.symm)))
  · exact own_stays ho (fun g hgg => set_other _ _ (fun e => by
      subst e
      rcases hl with c | c
      · rw [hgg] at c; exact kp c
      · rw [hgg] at c; injection c with c; omega))
/-- Another row of rows. -/
theorem Tm.growR (h : Tm w p m mb rs ks D l ws) {w2 : World} {v : Value} {l' : List Rw} (hg : w.grownBy w2 rs.ownBlock) (ho : OwnR w2 v l') (hl : v.ownBlock = rs.ownBlock ∨ v.ownBlock = some w.heap.size) :
    Tm (w2.setCell ⟨p, 2, none⟩ v) p m mb v ks D l' ws := by
  obtain ⟨a1, a2, a3⟩ := h.ap
  have hlt := h.lt
  have pl : p < w.heap.size := hlt p (by simp [fp])
  have ml : mb < w.heap.size := hlt mb (by simp [fp])
  have kp : some p ≠ rs.ownBlock := fun e => (a2 p e.symm).1 rfl
  have km : some mb ≠ rs.ownBlock := fun e => (a2 mb e.symm).2.1 rfl
  refine ⟨?_, ?_, ?_, ?_⟩
  · exact set_block v ((hg.block p pl kp).trans h.hp)
  · exact owns_stays h.hm ((set_other _ _ (fun e => a1 e.symm)).trans (hg.block mb ml km))
  · exact own_stays ho (fun g hgg => set_other _ _ (fun e => by
      subst e
      rcases hl with c | c
      · rw [hgg] at c; exact kp c
      · rw [hgg] at c; injection c with c; omega))
  · exact own_stays h.hk (fun g hgg => (set_other _ _ (a3 g hgg).1).trans (hg.block g (h.hk.lt g hgg).2 (fun e => (a3 g hgg).2.2 e.symm)))
/-- A word is written over. -/
theorem Tm.setK {g n cap : Nat} (h : Tm w p m mb rs (.slice (some ⟨g, 0, none⟩) n cap) D l ws) (j x : Nat) : Tm (w.setCell ⟨g, j, none⟩ (.int .u64 (x : Int))) p m mb rs (.slice (some ⟨g, 0, none⟩) n cap) D l (ws.set j x) := by
  obtain ⟨a1, a2, a3⟩ := h.ap
  obtain ⟨b1, b2, b3⟩ := a3 g rfl
  have hn : n = ws.length := by
    rcases own_form h.hk with ⟨e, _⟩ | ⟨g', c', e, _⟩
    · cases e
    · injection e
  refine ⟨(set_other _ _ (fun e => b1 e.symm)).trans h.hp, owns_stays h.hm (set_other _ _ (fun e => b2 e.symm)), own_stays h.hr (fun k hk => set_other _ _ (fun e => by subst e; exact b3 hk)), ?_⟩
  have hk := h.hk
  subst hn
  have := own_set hk j (.int .u64 (x : Int))
  rw [wrow_set] at this
  unfold OwnK
  rw [List.length_set]
  exact this
/-- A row is written over. -/
theorem Tm.setR {g n cap : Nat} (h : Tm w p m mb (.slice (some ⟨g, 0, none⟩) n cap) ks D l ws) (j : Nat) (x : Rw) (hj : j < l.length) : Tm ((w.setCell ⟨g, j * 2, none⟩ (.string x.1)).setCell ⟨g, j * 2 + 1, none⟩ (.string x.2)) p m mb (.slice (some ⟨g, 0, none⟩) n cap) ks D (l.set j x) ws := by
  obtain ⟨a1, a2, a3⟩ := h.ap
  obtain ⟨b1, b2, b3⟩ := a2 g rfl
  have hn : n = l.length := by
    rcases own_form h.hr with ⟨e, _⟩ | ⟨g', c', e, _⟩
    · cases e
    · injection e
  refine ⟨((set_other _ _ (fun e => b1 e.symm)).trans (set_other _ _ (fun e => b1 e.symm))).trans h.hp, owns_stays h.hm ((set_other _ _ (fun e => b2 e.symm)).trans (set_other _ _ (fun e => b2 e.symm))), ?_, own_stays h.hk (fun k hk => (set_other _ _ (fun e => by subst e; exact b3 hk)).trans (set_other _ _ (fun e => by subst e; exact b3 hk)))⟩
  have hr := h.hr
  subst hn
  have := own_set (own_set hr (j * 2) (.string x.1)) (j * 2 + 1) (.string x.2)
  rw [cellsR_set l j x hj] at this
  unfold OwnR
  rw [List.length_set]
  exact this
/-- A value is written over. -/
theorem Tm.setV {g n cap : Nat} (h : Tm w p m mb (.slice (some ⟨g, 0, none⟩) n cap) ks D l ws) (j : Nat) (v : ByteArray) (hj : j < l.length) : Tm (w.setCell ⟨g, j * 2 + 1, none⟩ (.string v)) p m mb (.slice (some ⟨g, 0, none⟩) n cap) ks D (l.set j (nm l j, v)) ws := by
  obtain ⟨a1, a2, a3⟩ := h.ap
  obtain ⟨b1, b2, b3⟩ := a2 g rfl
  have hn : n = l.length := by
    rcases own_form h.hr with ⟨e, _⟩ | ⟨g', c', e, _⟩
    · cases e
    · injection e
  refine ⟨(set_other _ _ (fun e => b1 e.symm)).trans h.hp, owns_stays h.hm (set_other _ _ (fun e => b2 e.symm)), ?_, own_stays h.hk (fun k hk => set_other _ _ (fun e => by subst e; exact b3 hk))⟩
  have hr := h.hr
  subst hn
  have := own_set hr (j * 2 + 1) (.string v)
  rw [cellsR_set1 l j v hj] at this
  unfold OwnR
  rw [List.length_set]
  exact this
/-- Another map. -/
theorem Tm.map (h : Tm w p m mb rs ks D l ws) {w2 : World} {D' : DataW Unit} (hg : w.grownBy w2 (some mb)) (ho : Own1 w2 mb 65536 D') : Tm w2 p m mb rs ks D' l ws := by
  obtain ⟨a1, a2, a3⟩ := h.ap
  have hlt := h.lt
  exact ⟨(hg.block p (hlt p (by simp [fp])) (fun e => a1 (Option.some.inj e))).trans h.hp, ho, own_stays h.hr (fun g hgg => hg.block g (h.hr.lt g hgg).2 (fun e => (a2 g hgg).2.1 (Option.some.inj e))), own_stays h.hk (fun g hgg => hg.block g (h.hk.lt g hgg).2 (fun e => (a3 g hgg).2.1 (Option.some.inj e)))⟩
/-- The rows are cut. -/
theorem Tm.cutR {g n cap : Nat} (h : Tm w p m mb (.slice (some ⟨g, 0, none⟩) n cap) ks D l ws) (n' : Nat) (hn' : n' ≤ l.length) : Tm (w.setCell ⟨p, 2, none⟩ (.slice (some ⟨g, 0, none⟩) n' cap)) p m mb (.slice (some ⟨g, 0, none⟩) n' cap) ks D (l.take n') ws := by
  obtain ⟨a1, a2, a3⟩ := h.ap
  obtain ⟨b1, b2, b3⟩ := a2 g rfl
  have hn : n = l.length := by
    rcases own_form h.hr with ⟨e, _⟩ | ⟨g', c', e, _⟩
    · cases e
    · injection e
  refine ⟨set_block _ h.hp, owns_stays h.hm (set_other _ _ (fun e => a1 e.symm)), ?_, own_stays h.hk (fun k hk => set_other _ _ (a3 k hk).1)⟩
  have hr := h.hr
  subst hn
  have := own_cut hr n' hn'
  rw [cellsR_take] at this
  have hlen : (l.take n').length = n' := by rw [List.length_take]; omega
  unfold OwnR
  rw [hlen]
  exact own_stays this (fun k hk => set_other _ _ (fun e => by
    subst e
    simp [Value.ownBlock] at hk
    exact b1 hk))
end
end Go.Proofs.YtfkijmmflpnncaaDoor.LS
