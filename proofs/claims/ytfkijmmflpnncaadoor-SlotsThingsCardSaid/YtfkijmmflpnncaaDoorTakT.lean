import Derived.Test.YtfkijmmflpnncaaDoorTak
import Derived.Test.YtfkijmmflpnncaaDoorTmvT
import Derived.Test.YtfkijmmflpnncaaDoorTmv
namespace Go.Proofs.YtfkijmmflpnncaaDoor.LT
open L
open Go.RowKit Bs Go.Maps
set_option linter.unusedVariables false
theorem cell_three_newT (w : World) (x y z : Value) (t : TypeId) : ∀ j u, [x, y, z][j]? = some u → (w.alloc (.cells #[x, y, z] t)).cell? ((⟨w.heap.size, 0, none⟩ : Addr).add j) = some u := by
  intro j u h
  rw [Go.WideShapes.add_plain]
  rw [cell_of_row (w.alloc (.cells #[x, y, z] t)) w.heap.size (0 + j) _ _ _ (heap_alloc_new w _)]
  simpa using h
theorem infoR : (Tryd.prog.info? 80).map (fun i => (i.zero, i.size, i.bytes)) = some (some (.agg #[.string ByteArray.empty, .int .i64 0, .string ByteArray.empty]), 3, 40) := by kernel_rfl
theorem low_is {m : Nat} {D : DataW Unit} {l : List Rw} {ws : List Nat} (h : Cp m D l ws) {r : Nat} (hr : IsLow ws r) : r = low l := by
  refine (low_one ?_ (fun j hj => ?_)).symm
  · rw [← h.bt]; exact hr.2.1
  · rw [← h.bt]; exact hr.2.2 j hj
theorem low_words {m : Nat} {D : DataW Unit} {l : List Rw} {ws : List Nat} (h : Cp m D l ws) : low l ≤ 64 * ws.length := by
  apply Classical.byContradiction
  intro c
  have := low_taken l (64 * ws.length) (by omega)
  rw [← h.bt, mem_out ws _ (by omega)] at this
  cases this
theorem lowest_low (m : Nat) (ks : Value) (D : DataW Unit) (l : List Rw) (ws : List Nat) (w : World) (h1 : OwnK w ks ws) (h2 : Cp m D l ws) (ht : Tab w) : Calls Tryd.prog 52 #[ks] w fun e w' => e = .returned (.int .i64 (low l : Int)) ∧ w' = w := by
  refine (lowest_any ks ws w (own_itemsK h1) h2.wd ht h2.wl).mono ?_
  rintro e w' ⟨r, rfl, b, c⟩
  exact ⟨by rw [low_is h2 b], c⟩
theorem Tm.pK {w w3 : World} {p m mb : Nat} {rs ks : Value} {D : DataW Unit} {l : List Rw} {ws : List Nat} {o : Obj} (h : Tm w p m mb rs ks D l ws) (hg : (w.alloc o).grownBy w3 ks.ownBlock) : w3.heap[p]? = w.heap[p]? := by
  have pl : p < w.heap.size := h.lt p (by simp [fp])
  exact (hg.block p (by simp; omega) (fun e => (h.ap.2.2 p e.symm).1 rfl)).trans (Below.heap_alloc w o p pl)
theorem Tm.pR {w w3 : World} {p m mb : Nat} {rs ks : Value} {D : DataW Unit} {l : List Rw} {ws : List Nat} {o : Obj} (h : Tm w p m mb rs ks D l ws) (hg : (w.alloc o).grownBy w3 rs.ownBlock) : w3.heap[p]? = w.heap[p]? := by
  have pl : p < w.heap.size := h.lt p (by simp [fp])
  exact (hg.block p (by simp; omega) (fun e => (h.ap.2.1 p e.symm).1 rfl)).trans (Below.heap_alloc w o p pl)
theorem Tm.word {w : World} {p m mb g n cap : Nat} {rs : Value} {D : DataW Unit} {l : List Rw} {ws : List Nat} (h : Tm w p m mb rs (.slice (some ⟨g, 0, none⟩) n cap) D l ws) {j : Nat} (hj : j < ws.length) : w.cell? ⟨g, j, none⟩ = some (.int .u64 ((ws.getD j 0 : Nat) : Int)) := by
  have := h.hk.cells (g := g) rfl j _ (wrow_get ws j hj)
  rw [Go.WideShapes.add_plain] at this
  simpa using this
theorem Tm.wfz {w : World} {p m mb g n cap : Nat} {rs : Value} {D : DataW Unit} {l : List Rw} {ws : List Nat} (h : Tm w p m mb rs (.slice (some ⟨g, 0, none⟩) n cap) D l ws) (j : Nat) : w.frozen? ⟨g, j, none⟩ = false := by
  have hn : n = ws.length := by
    rcases own_form h.hk with ⟨e, _⟩ | ⟨g', c', e, _⟩
    · cases e
    · injection e
  have hk := h.hk
  subst hn
  exact own_fz hk j
theorem Tm.rfz {w : World} {p m mb g n cap : Nat} {ks : Value} {D : DataW Unit} {l : List Rw} {ws : List Nat} (h : Tm w p m mb (.slice (some ⟨g, 0, none⟩) n cap) ks D l ws) (j : Nat) : w.frozen? ⟨g, j, none⟩ = false := by
  have hn : n = l.length := by
    rcases own_form h.hr with ⟨e, _⟩ | ⟨g', c', e, _⟩
    · cases e
    · injection e
  have hr := h.hr
  subst hn
  exact own_fz hr j
/-- The rows with one for the slot. -/
def withR (l : List Rw) : List Rw := if low l < l.length then l else l ++ [(ByteArray.empty, (0, ByteArray.empty))]
set_option maxHeartbeats 4000000 in
set_option maxRecDepth 100000 in
theorem take_any (p m mb : Nat) (rs ks : Value) (D : DataW Unit) (l : List Rw) (ws : List Nat) (w : World) (h1 : Tm w p m mb rs ks D l ws) (h2 : Cp m D l ws) (ht : Tab w) (hc : cnt l < m) :
    Calls Tryd.prog 31 #[.pointer (some ⟨p, 0, none⟩)] w fun e w' => ∃ rs' ks' ws', e = .returned (.int .i64 (low l : Int)) ∧ Tm w' p m mb rs' ks' D (withR l) ws' ∧
      (Wd ws' ∧ ws'.length ≤ 1024 ∧ ∀ i, mem ws' i = (isT l i || decide (i = low l))) ∧ Bx (fp p mb rs ks) w.heap.size w w' ∧ (∀ k ∈ fp p mb rs' ks', k ∈ fp p mb rs ks ∨ w.heap.size ≤ k) := by
  obtain ⟨i0, hi0, hz0, hz1, hz2⟩ := info_parts infoK
  obtain ⟨i1, hi1, hy0, hy1, hy2⟩ := info_parts infoR
  have hm := h2.ok.mm
  have hlow := low_cnt l
  have hlle := low_le l
  have hwl := h2.wl
  have LC := hid (lowest_low m ks D l ws w h1.hk h2 ht)
  have hle := low_words h2
  obtain ⟨a, cap, rfl⟩ := own_len h1.hk
  have c3 := h1.c3
  have f3 := h1.fz 3
  have f2 := h1.fz 2
  have ple : p < w.heap.size := h1.lt p (by simp [fp])
  have H1 := hid h1
  have H2 := hid h2
  obtain ⟨r, hr⟩ : ∃ r, r = low l := ⟨_, rfl⟩
  obtain ⟨L, hL⟩ : ∃ L, L = ws.length := ⟨_, rfl⟩
  rw [← hr] at hlow hlle hle LC ⊢
  rw [← hL] at c3 hwl LC hle
  have HK : Hid (w.ownsRow 0 97 1 (.slice a L cap) L (wrow ws)) := by rw [hL]; exact h1.hk
  have HR := hid hr
  have HL := hid hL
  clear hr hL h1 h2 ht
  have pF : p ∈ fp p mb rs (.slice a L cap) := fp_p
  rw [← HL.out] at H1 ⊢
  have hrl : ((r : Int) == (l.length : Int)) = decide (r = l.length) := by
    by_cases e : r = l.length
    · simp [e]
    · have : ((r : Int) == (l.length : Int)) = false := by rw [beq_eq_false_iff_ne]; omega
      rw [this]; simp [e]
  have LR := hid (show withR l = if r < l.length then l else l ++ [(ByteArray.empty, (0, ByteArray.empty))] by unfold withR; rw [HR.out])
  obtain ⟨N, hN⟩ : ∃ N, N = l.length := ⟨_, rfl⟩
  rw [← hN] at hlle hrl LR
  have HN := hid hN
  have RS := hid H1.out.hr
  clear hN
  have FR : Hid (∀ k, rs.ownBlock = some k → k ∈ fp p mb rs (.slice a L cap) ∨ w.heap.size ≤ k) := hid (fun k hk => Or.inl (fp_r hk))
  have MF : Hid (mb ∈ fp p mb rs (.slice a L cap)) := hid fp_m
  generalize hQ : (fun (e : Ending) (w' : World) => ∃ rs' ks' ws', e = .returned (.int .i64 (r : Int)) ∧ Tm w' p m mb rs' ks' D (withR l) ws' ∧ (Wd ws' ∧ ws'.length ≤ 1024 ∧ ∀ i, mem ws' i = (isT l i || decide (i = r))) ∧ Bx (fp p mb rs (.slice a L cap)) w.heap.size w w' ∧ (∀ k ∈ fp p mb rs' ks', k ∈ fp p mb rs (.slice a L cap) ∨ w.heap.size ≤ k)) = Q
  have HQ := hid hQ
  clear hQ
  by_cases hA : r = 64 * L
  case' pos =>
    have hA' : ((r : Int) == (L : Int) * 64) = true := by rw [beq_iff_eq]; omega
    replace hA := hid hA
    go_enter Tryd.func31, Tryd.ntmps31
    go_wp2_with (first
      | (go_at_call 52; refine LC.out.mono ?_; rintro e w2 ⟨rfl, hww⟩; replace hww := hww.symm; subst hww)
      | (at_builtin; refine wpList_append_own_at _ rfl _ _ 70 rfl 0 97 i0 (.int .u64 0) 1 8 Tryd.underlying70 hi0 hz0 hz1 hz2 rfl (by decide) (.slice a L cap) _ _ rfl (HK.out.alloc _) ⟨w.heap.size, 0, none⟩ 1 1 [.int .u64 0] rfl rfl (cell_one_new _ _ _) (fun u hu => by simp at hu; subst hu; rfl) (by unfold maxLen; omega) (by omega) (Nat.zero_le _) ?_
         intro v3 w3 hown3 hgrow3 hnil3 hloc3
         clear hnil3
         obtain ⟨g, kc, e3⟩ := own_some hown3 (by omega)
         subst e3
         have hp3 := H1.out.pK hgrow3
         have f3' : w3.frozen? ⟨p, 3, none⟩ = false := (World.frozen?_of_block (w := w) (a := ⟨p, 3, none⟩) hp3).trans f3
         have c3' : w3.cell? ⟨p, 3, none⟩ = some (.slice a L cap) := (World.cell?_of_block (w := w) (a := ⟨p, 3, none⟩) hp3).trans c3
         have T4 := hid (Tm.growK (H1.out.alloc _) hgrow3 (ws' := ws ++ [0]) (by show World.ownsRow _ _ _ _ _ _ _; rw [List.length_append, ← wrow_app, ← HL.out]; exact hown3) hloc3)
         have B4 := hid ((((Bx.refl (fp p mb rs (.slice a L cap)) w.heap.size w).alloc (Nat.le_refl _) _).grown hgrow3 (by simp) (fun k hk => Or.inl (fp_k hk))).setCell (p := ⟨p, 3, none⟩) (Or.inl pF) (.slice (some ⟨g, 0, none⟩) (L + 1) kc))
         have F4 : Hid (g ∈ fp p mb rs (.slice a L cap) ∨ w.heap.size ≤ g) := hid (by
           rcases hloc3 with c | c
           · exact Or.inl (fp_k c.symm)
           · refine Or.inr ?_
             simp [Value.ownBlock] at c
             omega)
         clear hown3 hgrow3 hloc3 hp3))
    generalize w3.setCell ⟨p, 3, none⟩ (.slice (some ⟨g, 0, none⟩) (L + 1) kc) = w4 at T4 B4 ⊢
    clear f3' c3'
    obtain ⟨L1, hL1⟩ : ∃ L1, L1 = L + 1 := ⟨_, rfl⟩
    rw [← hL1] at T4 ⊢
    have WS : Hid (∃ ws1, Tm w4 p m mb rs (.slice (some ⟨g, 0, none⟩) L1 kc) D l ws1 ∧ ws1.length = L1 ∧ Wd ws1 ∧ ∀ i, mem ws1 i = mem ws i) := hid ⟨_, T4.out, by rw [List.length_append, ← HL.out, hL1]; rfl, Wd.app H2.out.wd, mem_app0 ws⟩
    have hL2 : r / 64 < L1 := by have := hA.out; omega
    have hL3 : L1 ≤ 1024 := by have := hA.out; omega
    clear T4 hL1 hA hA'
  case' neg =>
    have hA' : ((r : Int) == (L : Int) * 64) = false := by rw [beq_eq_false_iff_ne]; omega
    have hL2 : r / 64 < L := by omega
    have hL0 : 0 < L := by omega
    obtain ⟨g, kc, e3⟩ := own_some HK.out hL0
    injection e3 with e3 _ e4
    subst e3 e4
    have F4 : Hid (g ∈ fp p mb rs (.slice (some ⟨g, 0, none⟩) L cap) ∨ w.heap.size ≤ g) := hid (Or.inl (fp_k rfl))
    have WS : Hid (∃ ws1, Tm w p m mb rs (.slice (some ⟨g, 0, none⟩) L cap) D l ws1 ∧ ws1.length = L ∧ Wd ws1 ∧ ∀ i, mem ws1 i = mem ws i) := hid ⟨ws, H1.out, HL.out.symm, H2.out.wd, fun _ => rfl⟩
    replace hA := hid hA
    go_enter Tryd.func31, Tryd.ntmps31
    go_wp2_with (first
      | (go_at_call 52; refine LC.out.mono ?_; rintro e w2 ⟨rfl, hww⟩; replace hww := hww.symm; subst hww))
    have hL3 := hwl
    generalize hw4 : w = w4 at WS ⊢
    have B4 := hid (show Bx (fp p mb rs (.slice (some ⟨g, 0, none⟩) L cap)) w.heap.size w w4 by rw [← hw4]; exact Bx.refl _ _ _)
    clear hw4
    generalize fp p mb rs (.slice (some ⟨g, 0, none⟩) L cap) = F at *
    generalize hLL : L = L1 at WS hL2 hL3 ⊢
    generalize hcc : cap = kc at WS ⊢
    clear hLL hcc
  case' pos =>
    generalize fp p mb rs (.slice a L cap) = F at *
  all_goals
    clear HK LC c3 f3 f2 H1
    obtain ⟨ws1, T4, hw1, wd1, me1⟩ := WS.out
    have c3 := T4.c3
    have hx := T4.word (j := r / 64) (by rw [hw1]; exact hL2)
    have fx := T4.wfz (r / 64)
    have hxb := wd1.getD (r / 64)
    have hr6 : r ≤ 65536 := by omega
    have eor := hid (or_num (ws1.getD (r / 64) 0) (r % 64) hxb (Nat.mod_lt _ (by decide)))
    have T5 := hid (T4.setK (r / 64) (ws1.getD (r / 64) 0 ||| 2 ^ (r % 64)))
    have AW : Hid (ws1.set (r / 64) (ws1.getD (r / 64) 0 ||| 2 ^ (r % 64)) = addW ws1 r) := rfl
    have W1 := hid (show Wd (addW ws1 r) ∧ (addW ws1 r).length = L1 ∧ ∀ i, mem (addW ws1 r) i = (isT l i || decide (i = r)) from ⟨Wd.addW wd1 r, by unfold addW; rw [List.length_set, hw1], fun i => by rw [mem_addW ws1 r (by rw [hw1]; exact hL2), me1, H2.out.bt]⟩)
    generalize ws1.getD (r / 64) 0 = x at *
    have hj : ((r / 64 : Nat) : Int) < (L1 : Int) := by omega
    have e1 := idx_div r hr6
    have e1' : wrap64 ((r : Int) / 64) = ((r / 64 : Nat) : Int) := by rw [wrap64_eq]; exact e1
    have e2 := idx_mod r
    generalize r / 64 = j at *
    generalize hq : r % 64 = q at *
    clear hq hL2 T4 WS wd1 me1 hw1 hxb
    go_region
    rw [eor.out]
    have T6 := hid (show Tm (w4.setCell ⟨g, j, none⟩ (.int .u64 ((x ||| 2 ^ q : Nat) : Int))).drew p m mb rs (.slice (some ⟨g, 0, none⟩) L1 kc) D l (addW ws1 r) from by rw [← AW.out]; exact T5.out.frame (fun _ _ => rfl))
    have B6 := hid ((B4.out.setCell (p := ⟨g, j, none⟩) F4.out (.int .u64 ((x ||| 2 ^ q : Nat) : Int))).drew)
    generalize (w4.setCell ⟨g, j, none⟩ (.int .u64 ((x ||| 2 ^ q : Nat) : Int))).drew = w6 at T6 B6 ⊢
    clear T5 AW eor e1 e1' e2 hx fx hj c3 B4
    obtain ⟨ra, rc, hrs⟩ := own_len T6.out.hr
    rw [← HN.out] at hrs
    subst hrs
    have c2 := T6.out.c2
    have f2 := T6.out.fz 2
    have hws6 : w.heap.size ≤ w6.heap.size := B6.out.size
    by_cases hB : r = N
    · have hrl' : ((r : Int) == (N : Int)) = true := by rw [hrl]; simpa using hB
      have HB := hid hB
      have RK : Hid (w6.ownsRow 0 80 3 (.slice ra N rc) N (cellsR l)) := hid (by have := T6.out.hr; unfold OwnR at this; rw [← HN.out] at this; exact this)
      clear hB hrl
      go_wp2_with (first
      | (at_builtin; refine wpList_append_own_at _ rfl _ _ 69 rfl 0 80 i1 (.agg #[.string ByteArray.empty, .int .i64 0, .string ByteArray.empty]) 3 40 Tryd.underlying69 hi1 hy0 hy1 hy2 rfl (by decide) (.slice ra N rc) _ _ rfl (RK.out.alloc _) ⟨w6.heap.size, 0, none⟩ 1 1 [.string ByteArray.empty, .int .i64 0, .string ByteArray.empty] rfl rfl (cell_three_newT _ _ _ _ _) (fun u hu => by simp at hu; rcases hu with rfl | rfl | rfl <;> rfl) (by have := HB.out; unfold maxLen; omega) (by have := HB.out; omega) (Nat.zero_le _) ?_
         intro v7 w7 hown7 hgrow7 hnil7 hloc7
         clear hnil7
         obtain ⟨g7, c7, e7⟩ := own_some hown7 (by omega)
         subst e7
         have hp7 := T6.out.pR hgrow7
         have f2' : w7.frozen? ⟨p, 2, none⟩ = false := (World.frozen?_of_block (w := w6) (a := ⟨p, 2, none⟩) hp7).trans f2
         have c2' : w7.cell? ⟨p, 2, none⟩ = some (.slice ra N rc) := (World.cell?_of_block (w := w6) (a := ⟨p, 2, none⟩) hp7).trans c2
         have T8 := hid (Tm.growR (T6.out.alloc _) hgrow7 (l' := l ++ [(ByteArray.empty, (0, ByteArray.empty))]) (by show World.ownsRow _ _ _ _ _ _ _; rw [List.length_append, cellsR_app, ← HN.out]; exact hown7) hloc7)
         have B8 := hid (((B6.out.alloc hws6 _).grown hgrow7 (by simp; omega) (fun k hk => FR.out k hk)).setCell (p := ⟨p, 2, none⟩) (Or.inl pF) (.slice (some ⟨g7, 0, none⟩) (N + 1) c7))
         have F8 : Hid (g7 ∈ F ∨ w.heap.size ≤ g7) := hid (by
           rcases hloc7 with c | c
           · exact FR.out g7 c.symm
           · refine Or.inr ?_
             simp [Value.ownBlock] at c
             omega)
         clear hown7 hgrow7 hloc7 hp7))

      rw [← HQ.out]
      refine ⟨.slice (some ⟨g7, 0, none⟩) (N + 1) c7, .slice (some ⟨g, 0, none⟩) L1 kc, addW ws1 r, rfl, ?_, ⟨W1.out.1, by rw [W1.out.2.1]; exact hL3, W1.out.2.2⟩, B8.out, ?_⟩
      · rw [LR.out, if_neg (by have := HB.out; omega)]; exact T8.out
      · exact fp_all (Or.inl pF) (Or.inl MF.out) (fun k hk => by simp [Value.ownBlock] at hk; rw [← hk]; exact F8.out) (fun k hk => by simp [Value.ownBlock] at hk; rw [← hk]; exact F4.out)
    · have hrl' : ((r : Int) == (N : Int)) = false := by rw [hrl]; simpa using hB
      have HB := hid hB
      clear hB hrl
      go_wp2_with fail

      rw [← HQ.out]
      refine ⟨.slice ra N rc, .slice (some ⟨g, 0, none⟩) L1 kc, addW ws1 r, rfl, ?_, ⟨W1.out.1, by rw [W1.out.2.1]; exact hL3, W1.out.2.2⟩, B6.out, ?_⟩
      · rw [LR.out, if_pos (by have := HB.out; omega)]; exact T6.out
      · exact fp_all (Or.inl pF) (Or.inl MF.out) FR.out (fun k hk => by simp [Value.ownBlock] at hk; rw [← hk]; exact F4.out)
end Go.Proofs.YtfkijmmflpnncaaDoor.LT
