import Derived.Test.YtdhjoimiejdgbaaDoorWk9
import Derived.LoopIn
namespace Go.Proofs.YtdhjoimiejdgbaaDoor.L
open Go.RowKit Bs Go.Maps Go.Shelf
set_option linter.unusedVariables false
attribute [local go_sem] Oper.semAt_some cell_alloc2 frozen_alloc2 run_store_fn
set_option maxHeartbeats 8000000 in
set_option maxRecDepth 100000 in
theorem walk_law (v1 v2 : Value) (ne : Int) (s1 s2 : List Opd) (w : World) (i1 : ItemsO w v1 s1) (g1 : GoodO s1) (i2 : ItemsO w v2 s2) (g2 : GoodO s2) (ht : Tab w) :
    Calls Tryd.prog 7 #[v1, v2, .int .i64 ne] w fun e w' => e = .returned (.bool true) ∧ Below w.heap.size w w' := by
  have FX : Hid (∀ W, Below w.heap.size w W → Calls Tryd.prog 9 #[] W fun e w' => e = .returned (.bool true) ∧ Below W.heap.size W w') := hid (fun W hb => fixed_any W (ht.low hb))
  obtain ⟨a1, k1, rfl, j1⟩ := i1
  obtain ⟨a2, k2, rfl, j2⟩ := i2
  have HI1 := hid j1
  have HI2 := hid j2
  have HG1 := hid g1
  have HG2 := hid g2
  have HT := hid ht
  obtain ⟨n1, hn1⟩ : ∃ n, n = s1.length := ⟨_, rfl⟩
  obtain ⟨n2, hn2⟩ : ∃ n, n = s2.length := ⟨_, rfl⟩
  have l1 := g1.1
  have l2 := g2.1
  rw [← hn1] at l1 ⊢
  rw [← hn2] at l2 ⊢
  have HN1 := hid hn1
  have HN2 := hid hn2
  unfold maxLen at l1 l2
  clear g1 g2 j1 j2 ht hn1 hn2
  generalize hQ : (fun (e : Ending) (w' : World) => e = .returned (.bool true) ∧ Below w.heap.size w w') = Q
  have HQ := hid hQ
  clear hQ
  refine (callsIn_wide (n := 3)).1 ?_
  refine callsIn_of_wp_marks Tryd.func7 rfl trivial ?_ rfl
  simp only [Tryd.ntmps7, List.size_toArray, List.length_cons, List.length_nil, Nat.reduceAdd, Nat.reduceSub, Array.replicate_succ, Array.replicate_zero, List.push_toArray, List.append_toArray, List.nil_append, List.cons_append]
  gi_wp2_with fail
  have b0 : Below w.heap.size w (((w.alloc (.cells #[.slice a2 n2 k2] 22)).alloc (.cells #[.int .i64 ne] 3)).alloc (.cells #[.bool false] 4)) := (((Below.refl _ w).alloc (Nat.le_refl _) _).alloc (by simp) _).alloc (by simp; omega) _
  have BA : Hid (Boxed (((w.alloc (.cells #[.slice a2 n2 k2] 22)).alloc (.cells #[.int .i64 ne] 3)).alloc (.cells #[.bool false] 4)) w.heap.size 22 (.slice a2 n2 k2)) := hid (((Boxed.new w _ _).alloc _).alloc _)
  have BE : Hid (Boxed (((w.alloc (.cells #[.slice a2 n2 k2] 22)).alloc (.cells #[.int .i64 ne] 3)).alloc (.cells #[.bool false] 4)) (w.heap.size + 1) 3 (.int .i64 ne)) := hid (by
    have := (Boxed.new (w.alloc (.cells #[.slice a2 n2 k2] 22)) 3 (.int .i64 ne)).alloc (.cells #[.bool false] 4)
    simpa using this)
  have BR : Hid (Boxed (((w.alloc (.cells #[.slice a2 n2 k2] 22)).alloc (.cells #[.int .i64 ne] 3)).alloc (.cells #[.bool false] 4)) (w.heap.size + 1 + 1) 4 (.bool false)) := hid (by
    have := bxn2 (w.alloc (.cells #[.slice a2 n2 k2] 22)) 4 3 (.bool false) (.int .i64 ne)
    rwa [World.size_alloc] at this)
  have hz0 : (((w.alloc (.cells #[.slice a2 n2 k2] 22)).alloc (.cells #[.int .i64 ne] 3)).alloc (.cells #[.bool false] 4)).heap.size = w.heap.size + 3 := by simp
  generalize ((w.alloc (.cells #[.slice a2 n2 k2] 22)).alloc (.cells #[.int .i64 ne] 3)).alloc (.cells #[.bool false] 4) = X0 at *
  refine ⟨trivial, ?_⟩
  refine (callsIn_wide.2 (FX.out X0 b0)).mono ?_
  rintro e w1 ⟨rfl, hb1⟩
  have B1 := hid (b0.trans (hb1.mono b0.size))
  have BA1 : Hid (Boxed w1 w.heap.size 22 (.slice a2 n2 k2)) := hid ((hb1.block _ BA.out.lt).trans BA.out)
  have BE1 : Hid (Boxed w1 (w.heap.size + 1) 3 (.int .i64 ne)) := hid ((hb1.block _ BE.out.lt).trans BE.out)
  have BR1 : Hid (Boxed w1 (w.heap.size + 1 + 1) 4 (.bool false)) := hid ((hb1.block _ BR.out.lt).trans BR.out)
  have hz1 : w.heap.size + 3 ≤ w1.heap.size := by rw [← hz0]; exact hb1.size
  clear b0 hb1 BA BE BR hz0 FX
  gi_wp2_with fail
  refine ⟨trivial, ?_⟩
  refine (callsIn_wide.2 (begin_any w1)).mono ?_
  rintro e w2 ⟨B, st0', rfl, hW0, hR0⟩
  have hb2 := hW0.lo.below (Nat.le_refl _) (fun k hk => by cases hk)
  have BA2 : Hid (Boxed w2 w.heap.size 22 (.slice a2 n2 k2)) := hid ((hb2.block _ BA1.out.lt).trans BA1.out)
  have BE2 : Hid (Boxed w2 (w.heap.size + 1) 3 (.int .i64 ne)) := hid ((hb2.block _ BE1.out.lt).trans BE1.out)
  have BR2 : Hid (Boxed w2 (w.heap.size + 1 + 1) 4 (.bool false)) := hid ((hb2.block _ BR1.out.lt).trans BR1.out)
  have hz2 := hb2.size
  have W2 := hid hW0
  have R2 := hid hR0
  clear hW0 hR0 BA1 BE1 BR1 hb2
  gi_wp2_with fail
  have al2 := (Below.refl w2.heap.size w2).alloc (Nat.le_refl _) (.cells #[.pointer (some ⟨B, 0, none⟩)] 24)
  have TA : Hid (Tab w1) := hid (HT.out.low B1.out)
  have H0 : Hid (∃ st, Wh w1 (w2.alloc (.cells #[.pointer (some ⟨B, 0, none⟩)] 24)) B [] st ∧ Re st ∧ Kq (w2.alloc (.cells #[.pointer (some ⟨B, 0, none⟩)] 24)) w.heap.size w2.heap.size B (.slice a2 n2 k2) ne) := hid ⟨_, W2.out.low al2, R2.out, (al2.block _ BA2.out.lt).trans BA2.out, (al2.block _ BE2.out.lt).trans BE2.out, Boxed.new w2 _ _, (al2.block _ BR2.out.lt).trans BR2.out⟩
  clear al2 BA2 BE2 BR2 W2 R2
  generalize w2.alloc (.cells #[.pointer (some ⟨B, 0, none⟩)] 24) = X2 at *
  gi_loopw [42] (fun i wr => ∃ k : Nat, k ≤ n1 ∧ i = .int .i64 k ∧ Hid (∃ st, Wh w1 wr B [] st ∧ Re st ∧ Kq wr w.heap.size w2.heap.size B (.slice a2 n2 k2) ne)) (fun i _ => n1 - (intOf i).toNat)
  case atStart => exact ⟨0, Nat.zero_le _, rfl, H0⟩
  case round =>
    clear H0
    obtain ⟨k, hk, rfl, HX⟩ := hrel
    obtain ⟨st, hWs, hRs, hKs⟩ := HX.out
    have HW := hid hWs
    have HR := hid hRs
    have HK := hid hKs
    clear HX hWs hRs hKs
    by_cases hlt : k < n1
    · have hkl : k < s1.length := by rw [← HN1.out]; exact hlt
      rcases HI1.out with h0 | ⟨b, off, ea, hbl, hc⟩
      · omega
      subst ea
      obtain ⟨x0, x1, x2, x3, x4⟩ := hc k hkl
      have BL := B1.out.trans ((HW.out.lo.below (Nat.le_refl _) (fun k hk => by cases hk)).mono B1.out.size)
      rw [← BL.cell (p := ⟨b, off + k * 5, none⟩) hbl] at x0
      rw [← BL.cell (p := ⟨b, off + k * 5 + 1, none⟩) hbl] at x1
      rw [← BL.cell (p := ⟨b, off + k * 5 + 2, none⟩) hbl] at x2
      rw [← BL.cell (p := ⟨b, off + k * 5 + 3, none⟩) hbl] at x3
      rw [← BL.cell (p := ⟨b, off + k * 5 + 4, none⟩) hbl] at x4
      have hsz := HG1.out.2 _ (List.getElem_mem hkl)
      generalize s1[k].k = kk at *
      generalize s1[k].a = oa at *
      generalize s1[k].t = ot at *
      generalize s1[k].s = s at *
      generalize s1[k].v = ov at *
      have bc := HK.out.bw.cell
      have bl := HK.out.bw.lt
      have al : Below wr.heap.size wr (wr.alloc (.cells #[.int .i64 kk, .int .i64 1, .int .i64 ot, .string s, .int .i64 ov] 28)) := (Below.refl wr.heap.size wr).alloc (Nat.le_refl _) _
      have W1 := hid (HW.out.low al)
      have K1 := hid (HK.out.low al)
      clear hc hkl BL al
      by_cases h2 : (2 : Int) ≤ kk
      · by_cases h4 : kk ≤ (4 : Int)
        · have CS := hid (step_fr W1.out HR.out TA.out kk 1 ot ov s hsz)
          clear hsz
          gi_wp2_with (refine ⟨trivial, ?_⟩; gi_at_call 11; refine (callsIn_wide.2 CS.out).mono ?_; rintro e w5 ⟨rfl, st', hA, hB, hX⟩; have HS5 : Hid (∃ st, Wh w1 w5 B [] st ∧ Re st ∧ Kq w5 w.heap.size w2.heap.size B (.slice a2 n2 k2) ne) := hid ⟨st', hA, hB, K1.out.step W1.out hX⟩; clear hA hB hX)
          exact ⟨⟨k + 1, by omega, by go_num, HS5⟩, by simp [intOf]; omega⟩
        · have HS5 : Hid (∃ st, Wh w1 (wr.alloc (.cells #[.int .i64 kk, .int .i64 1, .int .i64 ot, .string s, .int .i64 ov] 28)) B [] st ∧ Re st ∧ Kq (wr.alloc (.cells #[.int .i64 kk, .int .i64 1, .int .i64 ot, .string s, .int .i64 ov] 28)) w.heap.size w2.heap.size B (.slice a2 n2 k2) ne) := hid ⟨st, W1.out, HR.out, K1.out⟩
          clear hsz
          gi_wp2_with fail
          refine ⟨trivial, ?_⟩
          gi_wp2_with fail
          exact ⟨⟨k + 1, by omega, by go_num, HS5⟩, by simp [intOf]; omega⟩
      · have HS5 : Hid (∃ st, Wh w1 (wr.alloc (.cells #[.int .i64 kk, .int .i64 1, .int .i64 ot, .string s, .int .i64 ov] 28)) B [] st ∧ Re st ∧ Kq (wr.alloc (.cells #[.int .i64 kk, .int .i64 1, .int .i64 ot, .string s, .int .i64 ov] 28)) w.heap.size w2.heap.size B (.slice a2 n2 k2) ne) := hid ⟨st, W1.out, HR.out, K1.out⟩
        clear hsz
        gi_wp2_with fail
        refine ⟨trivial, ?_⟩
        gi_wp2_with fail
        exact ⟨⟨k + 1, by omega, by go_num, HS5⟩, by simp [intOf]; omega⟩
    · have hkN : n1 = k := by omega
      subst hkN
      have bc := HK.out.bw.cell
      obtain ⟨bp, hb⟩ := (HW.out.tq 1 (by decide)).form
      obtain ⟨va, vc, hv⟩ := own_len (HW.out.od 1 (by decide))
      obtain ⟨c0, c1, c2⟩ := HW.out.cells (i := 1) (by decide)
      rw [hb] at c0
      rw [hv] at c2
      have bl := HK.out.bw.lt
      have HTQ := hid (HW.out.tq 1 (by decide))
      have HOD := hid (HW.out.od 1 (by decide))
      have hBlt := HW.out.lt
      have hRE := HR.out 1 (by decide)
      have HRE := hid hRE.1
      have HSL : Hid ((st 1).d.length ≤ 65536 ∧ ∀ k, ds (st 1).d k < 65536) := hid ⟨by
        rw [HRE.out.len]
        exact Nat.le_trans (Nat.le_trans (cnt_le _) HTQ.out.ok.le) HTQ.out.ok.mm, HRE.out.slots HTQ.out.ok⟩
      rw [hv] at HOD
      rw [hb] at HTQ
      have HVV := hid hv
      have HBB := hid hb
      clear hRE hb hv
      generalize (st 1).m = m1 at *
      generalize (st 1).l = ll at *
      generalize (st 1).F = F1 at *
      generalize (st 1).mo = mo1 at *
      generalize (st 1).d = dd at *
      obtain ⟨dl, hdl⟩ : ∃ n, n = dd.length := ⟨_, rfl⟩
      rw [← hdl] at c2 HOD HVV HSL
      have HDL := hid hdl
      clear hdl
      gi_wp2_with fail
      have CC : Hid (∀ Y, Below wr.heap.size wr Y → Y.cell? ⟨w2.heap.size, 0, none⟩ = some (.pointer (some ⟨B, 0, none⟩)) ∧ Y.cell? ⟨B, 1, none⟩ = some (.pointer bp) ∧ Y.cell? ⟨B, 6, none⟩ = some (.int .i64 mo1) ∧ Y.cell? ⟨B, 7, none⟩ = some (.slice va dl vc)) :=
        hid (fun Y hY => ⟨(hY.cell (p := ⟨w2.heap.size, 0, none⟩) bl).trans bc, (hY.cell (p := ⟨B, 1, none⟩) hBlt).trans c0, (hY.cell (p := ⟨B, 6, none⟩) hBlt).trans c1, (hY.cell (p := ⟨B, 7, none⟩) hBlt).trans c2⟩)
      have K0 : Hid (∀ Y, Hid (Below wr.heap.size wr Y) → Hid (Below wr.heap.size wr Y) ∧ Y.cell? ⟨w2.heap.size, 0, none⟩ = some (.pointer (some ⟨B, 0, none⟩)) ∧ Y.cell? ⟨B, 1, none⟩ = some (.pointer bp) ∧ Y.cell? ⟨B, 6, none⟩ = some (.int .i64 mo1) ∧ Y.cell? ⟨B, 7, none⟩ = some (.slice va dl vc)) := hid (fun Y hY => ⟨hY, CC.out Y hY.out⟩)
      have AL : Hid (∀ Y, Hid (Below wr.heap.size wr Y) → Calls Tryd.prog 41 #[.pointer bp] Y fun e w' => ∃ X v, e = .returned (allF X) ∧ Y.heap.size ≤ X ∧ w'.heap[X]? = some (.cells #[v] 72 (0, 0)) ∧ OwnS w' Y.heap.size v (bs ll) ∧ Below Y.heap.size Y w') := hid (fun Y hY => (HTQ.out.low hY.out).all)
      have BS : Hid (∀ Y, Hid (Below wr.heap.size wr Y) → Calls Tryd.prog 42 #[.agg #[.int .i64 mo1, .slice va dl vc]] Y fun e w' => ∃ v', e = .returned v' ∧ w'.ownsRow Y.heap.size 63 3 v' (bsD dd (spanD dd)).length (cellsD (bsD dd (spanD dd))) ∧ Below Y.heap.size Y w') := hid (fun Y hY => rbyslotL mo1 va vc dl dd HDL.out Y (HOD.out.low hY.out) HSL.out.1 HSL.out.2)
      clear bc c0 c1 c2 CC
      gi_cut [11, 12] from 62 (fun v11 v12 wx => Hid (Rg wr ll dd v11 v12 wx))
      case first =>
        refine wpIn_wide.2 ?_
        go_region_held3 (fun Y => Hid (Below wr.heap.size wr Y) ∧ Y.cell? ⟨w2.heap.size, 0, none⟩ = some (.pointer (some ⟨B, 0, none⟩)) ∧ Y.cell? ⟨B, 1, none⟩ = some (.pointer bp) ∧ Y.cell? ⟨B, 6, none⟩ = some (.int .i64 mo1) ∧ Y.cell? ⟨B, 7, none⟩ = some (.slice va dl vc))
          ((refine K0.out _ ?_; repeat' (first | exact SB | exact SA | exact hid (Below.refl _ wr) | refine keepD ?_ | refine keepA ?_ _ | refine keepS ?_ _ _ ?_ | exact Nat.le_refl _ | exact Nat.le_succ _ | omega | (have z1 := SA.out.size; have z2 := SB.out.size; simp at z1 z2 ⊢; omega) | (have z1 := SA.out.size; simp at z1 ⊢; omega) | (have z2 := SB.out.size; simp at z2 ⊢; omega))))
          (first
            | (go_at_call 41; refine (AL.out _ (by go_split_ands; assumption)).mono ?_; rintro e w3 ⟨X, v3, he, hX3, hb3, O3, B3⟩; unfold allF at he; subst he; have SA : Hid (Below wr.heap.size wr w3) := (by go_split_ands; exact keepT (by assumption) B3); (first | (have qa : Hid (Boxed w3 (wr.heap.size) 87 .nilFunc) := hid (boxed_below (by first | exact bxn1 _ _ _ | exact bxn2 _ _ _ _ _ | exact bxn3 _ _ _ _ _ | exact boxed_drew (bxn1 _ _ _) | exact boxed_drew (bxn2 _ _ _ _ _) | exact boxed_drew (bxn3 _ _ _ _ _)) B3); have qac := qa.out.cell; have qaf := qa.out.frozen; have qag := fun o => (qa.out.alloc o).cell; have qah := fun o => (qa.out.alloc o).frozen; have qal := qa.out.lt; have qam := eq_false (Nat.ne_of_lt qa.out.lt); have qan := eq_false (Nat.ne_of_gt qa.out.lt)) | (have qa : Hid (Boxed w3 (wr.heap.size) 33 (.slice none 0 0)) := hid (boxed_below (by first | exact bxn1 _ _ _ | exact bxn2 _ _ _ _ _ | exact bxn3 _ _ _ _ _ | exact boxed_drew (bxn1 _ _ _) | exact boxed_drew (bxn2 _ _ _ _ _) | exact boxed_drew (bxn3 _ _ _ _ _)) B3); have qac := qa.out.cell; have qaf := qa.out.frozen; have qag := fun o => (qa.out.alloc o).cell; have qah := fun o => (qa.out.alloc o).frozen; have qal := qa.out.lt; have qam := eq_false (Nat.ne_of_lt qa.out.lt); have qan := eq_false (Nat.ne_of_gt qa.out.lt)) | skip); (first | (have qb : Hid (Boxed w3 (wr.heap.size + 1) 87 .nilFunc) := hid (boxed_below (by first | exact bxn1 _ _ _ | exact bxn2 _ _ _ _ _ | exact bxn3 _ _ _ _ _ | exact boxed_drew (bxn1 _ _ _) | exact boxed_drew (bxn2 _ _ _ _ _) | exact boxed_drew (bxn3 _ _ _ _ _)) B3); have qbc := qb.out.cell; have qbf := qb.out.frozen; have qbg := fun o => (qb.out.alloc o).cell; have qbh := fun o => (qb.out.alloc o).frozen; have qbl := qb.out.lt; have qbm := eq_false (Nat.ne_of_lt qb.out.lt); have qbn := eq_false (Nat.ne_of_gt qb.out.lt)) | (have qb : Hid (Boxed w3 (wr.heap.size + 1) 33 (.slice none 0 0)) := hid (boxed_below (by first | exact bxn1 _ _ _ | exact bxn2 _ _ _ _ _ | exact bxn3 _ _ _ _ _ | exact boxed_drew (bxn1 _ _ _) | exact boxed_drew (bxn2 _ _ _ _ _) | exact boxed_drew (bxn3 _ _ _ _ _)) B3); have qbc := qb.out.cell; have qbf := qb.out.frozen; have qbg := fun o => (qb.out.alloc o).cell; have qbh := fun o => (qb.out.alloc o).frozen; have qbl := qb.out.lt; have qbm := eq_false (Nat.ne_of_lt qb.out.lt); have qbn := eq_false (Nat.ne_of_gt qb.out.lt)) | skip); have HB3 := hid hb3; have HX3 := hid hX3; have HO3 := hid O3; have D3 := hid B3; clear hb3 hX3 O3 B3)
            | (go_at_call 42; refine (BS.out _ (by go_split_ands; assumption)).mono ?_; rintro e w4 ⟨v4, rfl, O4, B4⟩; obtain ⟨a4, c4, hv4⟩ := own_len O4; subst hv4; have SB : Hid (Below wr.heap.size wr w4) := (by go_split_ands; exact keepT (by assumption) B4); (first | (have ra : Hid (Boxed w4 (wr.heap.size) 87 .nilFunc) := hid (boxed_below (by first | exact bxn1 _ _ _ | exact bxn2 _ _ _ _ _ | exact bxn3 _ _ _ _ _ | exact boxed_drew (bxn1 _ _ _) | exact boxed_drew (bxn2 _ _ _ _ _) | exact boxed_drew (bxn3 _ _ _ _ _) | exact qa.out | exact qa.out.alloc _ | exact (qa.out.alloc _).alloc _) B4); have rac := ra.out.cell; have raf := ra.out.frozen; have rag := fun o => (ra.out.alloc o).cell; have rah := fun o => (ra.out.alloc o).frozen; have ral := ra.out.lt; have ram := eq_false (Nat.ne_of_lt ra.out.lt); have ran := eq_false (Nat.ne_of_gt ra.out.lt)) | (have ra : Hid (Boxed w4 (wr.heap.size) 33 (.slice none 0 0)) := hid (boxed_below (by first | exact bxn1 _ _ _ | exact bxn2 _ _ _ _ _ | exact bxn3 _ _ _ _ _ | exact boxed_drew (bxn1 _ _ _) | exact boxed_drew (bxn2 _ _ _ _ _) | exact boxed_drew (bxn3 _ _ _ _ _) | exact qa.out | exact qa.out.alloc _ | exact (qa.out.alloc _).alloc _) B4); have rac := ra.out.cell; have raf := ra.out.frozen; have rag := fun o => (ra.out.alloc o).cell; have rah := fun o => (ra.out.alloc o).frozen; have ral := ra.out.lt; have ram := eq_false (Nat.ne_of_lt ra.out.lt); have ran := eq_false (Nat.ne_of_gt ra.out.lt)) | skip); (first | (have rb : Hid (Boxed w4 (wr.heap.size + 1) 87 .nilFunc) := hid (boxed_below (by first | exact bxn1 _ _ _ | exact bxn2 _ _ _ _ _ | exact bxn3 _ _ _ _ _ | exact boxed_drew (bxn1 _ _ _) | exact boxed_drew (bxn2 _ _ _ _ _) | exact boxed_drew (bxn3 _ _ _ _ _) | exact qb.out | exact qb.out.alloc _ | exact (qb.out.alloc _).alloc _) B4); have rbc := rb.out.cell; have rbf := rb.out.frozen; have rbg := fun o => (rb.out.alloc o).cell; have rbh := fun o => (rb.out.alloc o).frozen; have rbl := rb.out.lt; have rbm := eq_false (Nat.ne_of_lt rb.out.lt); have rbn := eq_false (Nat.ne_of_gt rb.out.lt)) | (have rb : Hid (Boxed w4 (wr.heap.size + 1) 33 (.slice none 0 0)) := hid (boxed_below (by first | exact bxn1 _ _ _ | exact bxn2 _ _ _ _ _ | exact bxn3 _ _ _ _ _ | exact boxed_drew (bxn1 _ _ _) | exact boxed_drew (bxn2 _ _ _ _ _) | exact boxed_drew (bxn3 _ _ _ _ _) | exact qb.out | exact qb.out.alloc _ | exact (qb.out.alloc _).alloc _) B4); have rbc := rb.out.cell; have rbf := rb.out.frozen; have rbg := fun o => (rb.out.alloc o).cell; have rbh := fun o => (rb.out.alloc o).frozen; have rbl := rb.out.lt; have rbm := eq_false (Nat.ne_of_lt rb.out.lt); have rbn := eq_false (Nat.ne_of_gt rb.out.lt)) | skip); (first | (have rc : Hid (Boxed w4 (w3.heap.size) 87 .nilFunc) := hid (boxed_below (by first | exact bxn1 _ _ _ | exact bxn2 _ _ _ _ _ | exact bxn3 _ _ _ _ _ | exact boxed_drew (bxn1 _ _ _) | exact boxed_drew (bxn2 _ _ _ _ _) | exact boxed_drew (bxn3 _ _ _ _ _)) B4); have rcc := rc.out.cell; have rcf := rc.out.frozen; have rcg := fun o => (rc.out.alloc o).cell; have rch := fun o => (rc.out.alloc o).frozen; have rcl := rc.out.lt; have rcm := eq_false (Nat.ne_of_lt rc.out.lt); have rcn := eq_false (Nat.ne_of_gt rc.out.lt)) | (have rc : Hid (Boxed w4 (w3.heap.size) 33 (.slice none 0 0)) := hid (boxed_below (by first | exact bxn1 _ _ _ | exact bxn2 _ _ _ _ _ | exact bxn3 _ _ _ _ _ | exact boxed_drew (bxn1 _ _ _) | exact boxed_drew (bxn2 _ _ _ _ _) | exact boxed_drew (bxn3 _ _ _ _ _)) B4); have rcc := rc.out.cell; have rcf := rc.out.frozen; have rcg := fun o => (rc.out.alloc o).cell; have rch := fun o => (rc.out.alloc o).frozen; have rcl := rc.out.lt; have rcm := eq_false (Nat.ne_of_lt rc.out.lt); have rcn := eq_false (Nat.ne_of_gt rc.out.lt)) | skip); (first | (have rd : Hid (Boxed w4 (w3.heap.size + 1) 87 .nilFunc) := hid (boxed_below (by first | exact bxn1 _ _ _ | exact bxn2 _ _ _ _ _ | exact bxn3 _ _ _ _ _ | exact boxed_drew (bxn1 _ _ _) | exact boxed_drew (bxn2 _ _ _ _ _) | exact boxed_drew (bxn3 _ _ _ _ _)) B4); have rdc := rd.out.cell; have rdf := rd.out.frozen; have rdg := fun o => (rd.out.alloc o).cell; have rdh := fun o => (rd.out.alloc o).frozen; have rdl := rd.out.lt; have rdm := eq_false (Nat.ne_of_lt rd.out.lt); have rdn := eq_false (Nat.ne_of_gt rd.out.lt)) | (have rd : Hid (Boxed w4 (w3.heap.size + 1) 33 (.slice none 0 0)) := hid (boxed_below (by first | exact bxn1 _ _ _ | exact bxn2 _ _ _ _ _ | exact bxn3 _ _ _ _ _ | exact boxed_drew (bxn1 _ _ _) | exact boxed_drew (bxn2 _ _ _ _ _) | exact boxed_drew (bxn3 _ _ _ _ _)) B4); have rdc := rd.out.cell; have rdf := rd.out.frozen; have rdg := fun o => (rd.out.alloc o).cell; have rdh := fun o => (rd.out.alloc o).frozen; have rdl := rd.out.lt; have rdm := eq_false (Nat.ne_of_lt rd.out.lt); have rdn := eq_false (Nat.ne_of_gt rd.out.lt)) | skip); have HO4 := hid O4; have D4 := hid B4; clear O4 B4))
        all_goals (gi_wp2_with fail)
        all_goals gi_meet
        all_goals
          refine hid (rg_mk (w3 := w3) (w4 := w4) (Hid.out (by go_split_ands; assumption)) ?_ ?_ ?_ HB3.out HX3.out HO3.out ?_ ?_ HO4.out ?_ ?_)
          · (have z1 := D3.out.size; have z2 := D4.out.size; have z3 := SA.out.size; have z4 := SB.out.size; simp only [drew_size, World.size_alloc] at z1 z2 z3 z4 ⊢; omega)
          · (unfold allF; (first | with_reducible exact bxn1 _ _ _ | with_reducible exact bxn2 _ _ _ _ _ | with_reducible exact bxn3 _ _ _ _ _  | with_reducible exact (ra.out.set _).alloc _ | with_reducible exact (ra.out.set _).other (by have := ra.out.lt; omega) _ | with_reducible exact (ra.out.other (by have := ra.out.lt; omega) _).set _ | with_reducible exact (rb.out.set _).alloc _ | with_reducible exact (rb.out.set _).other (by have := rb.out.lt; omega) _ | with_reducible exact (rb.out.other (by have := rb.out.lt; omega) _).set _ | with_reducible exact (rc.out.set _).alloc _ | with_reducible exact (rc.out.set _).other (by have := rc.out.lt; omega) _ | with_reducible exact (rc.out.other (by have := rc.out.lt; omega) _).set _ | with_reducible exact (rd.out.set _).alloc _ | with_reducible exact (rd.out.set _).other (by have := rd.out.lt; omega) _ | with_reducible exact (rd.out.other (by have := rd.out.lt; omega) _).set _ | simpa using bxn1 (World.setCell _ _ _) _ _))
          · (first | with_reducible exact bxn1 _ _ _ | with_reducible exact bxn2 _ _ _ _ _ | with_reducible exact bxn3 _ _ _ _ _  | with_reducible exact (ra.out.set _).alloc _ | with_reducible exact (ra.out.set _).other (by have := ra.out.lt; omega) _ | with_reducible exact (ra.out.other (by have := ra.out.lt; omega) _).set _ | with_reducible exact (rb.out.set _).alloc _ | with_reducible exact (rb.out.set _).other (by have := rb.out.lt; omega) _ | with_reducible exact (rb.out.other (by have := rb.out.lt; omega) _).set _ | with_reducible exact (rc.out.set _).alloc _ | with_reducible exact (rc.out.set _).other (by have := rc.out.lt; omega) _ | with_reducible exact (rc.out.other (by have := rc.out.lt; omega) _).set _ | with_reducible exact (rd.out.set _).alloc _ | with_reducible exact (rd.out.set _).other (by have := rd.out.lt; omega) _ | with_reducible exact (rd.out.other (by have := rd.out.lt; omega) _).set _ | simpa using bxn1 (World.setCell _ _ _) _ _)
          · (repeat' (first | exact Bx.refl _ _ _ | refine bx_alloc ?_ _ | refine bx_below ?_ D4.out | refine Bx.setCell ?_ (Or.inl (by simp)) _))
          · (intro k e1 e2; have z1 := D3.out.size; have z2 := D4.out.size; have z3 := SA.out.size; have z4 := SB.out.size; simp only [drew_size, World.size_alloc] at e1 e2 z1 z2 z3 z4 ⊢; omega)
          · (repeat' (first | exact Bx.refl _ _ _ | refine bx_alloc ?_ _ | refine bx_below ?_ D4.out | refine Bx.setCell ?_ (Or.inl (by simp)) _))
          · (intro k e1 e2; have z1 := D3.out.size; have z2 := D4.out.size; have z3 := SA.out.size; have z4 := SB.out.size; simp only [drew_size, World.size_alloc] at e1 e2 z1 z2 z3 z4 ⊢; omega)
      case rest =>
      clear AL BS K0
      obtain ⟨LOW, bk, bn, X, v3, wv, e11, e12, hbk, hbn, hX, KB, NB, XB, O3, O4⟩ := hcut.out
      subst e11 e12
      obtain ⟨wa, wcp, hwv⟩ := own_len O4
      subst hwv
      have WHC : ∃ st, Wh w1 wc B [] st ∧ Re st := ⟨st, HW.out.low LOW, HR.out⟩
      have hEq := HRE.out.bys_all HTQ.out.ok.tr
      have hN6 : (bsD dd (spanD dd)).length ≤ 65536 := Nat.le_trans (bsD_len dd _) (by rw [HRE.out.span HTQ.out.ok.tr]; exact Nat.le_trans HTQ.out.ok.le HTQ.out.ok.mm)
      have hS6 : (bs ll).length ≤ 65536 := by rw [bs_len]; exact Nat.le_trans HTQ.out.ok.le HTQ.out.ok.mm
      clear hcut
      rename_i hNX
      refine hNX _ _ ?_
      exact rest_law Q w w1 wc w.heap.size w2.heap.size bk bn B X n2 k2 wcp _ wr.heap.size a2 wa ne v3 (bs ll) (bsD dd (spanD dd)) s2 _ _ _ _ _ _ _ _ _ _ _ _ _ _ _ _ _ _ _ _ _ _ _ _ _ _ _ _ _ _ _ _ _ _ _ _ _ _ _ _ _ _ _ _ _ _ _ _ _ _ _ _ _ _ _ _ _ _ _ _ _ _ _ _ _ _ _ _ _ _ _ _ _ _ _ _ _ _ _ _ _ _ _ _ _ _ _ _ _ _ _ _ _ _ _ _ _ _ _ _ _ _ _ _ _ _ _ _ _ _ _ _ _ _ _ _ _ _ _ _ _ _ _ _ _ _ _ _ _ _ _ _ _ _ _ _ _ _ _ _ _ _ _ _ _ _ _ _ _ _ _ _ _ _ _ _ _ _ _ _ _ _ _ _ _ _ _ _ _ _ _ _ _ _ _ _ _ _ _ _ _ _ _ _ _ _ _ _ _ _ _ _ _ _ _ _ _ _ _ _ _ _ _ _ _ _ _ _ _ _ _ _ _ _ _ _ _ _ _ _ _ _ _ _ _ _ _ _ _ _ _ _ _ _ _ _ _ _ _ _ _ _ _ _ _ _ _ _ _ _ _ _ _ _ _ _ _ _ _ _ _ _ _ _ _ _ _ _ _ (HK.out.low LOW) (HK.out.low LOW).br WHC TA.out B1.out (Nat.le_refl _) ⟨HN2.out, HI2.out⟩ HG2.out KB NB XB O3 O4 hEq rfl hN6 hS6 (fun w' hb => by rw [← HQ.out]; exact ⟨rfl, hb⟩)
end Go.Proofs.YtdhjoimiejdgbaaDoor.L
