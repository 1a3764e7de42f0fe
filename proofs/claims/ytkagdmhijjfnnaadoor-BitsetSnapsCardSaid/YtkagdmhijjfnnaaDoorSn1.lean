import Derived.Test.YtkagdmhijjfnnaaDoorIt2
namespace Go.Proofs.YtkagdmhijjfnnaaDoor
open Go.RowKit Go.Shelf Bs
set_option linter.unusedVariables false
attribute [local go_sem] Oper.semAt_some
/-- The boxes of pairs: the func, the list, the answer, the count. -/
structure Pk (w W : World) (X : Nat) (vw : Value) (k : Nat) : Prop where
  bi : Boxed W w.heap.size 62 (allB X)
  bw : Boxed W (w.heap.size + 1) 28 vw
  br : Boxed W (w.heap.size + 1 + 1) 4 (.bool false)
  bk : Boxed W (w.heap.size + 1 + 1 + 1) 3 (.int .i64 k)
  low : Below w.heap.size w W
theorem boxed_low {W W' : World} {B : Nat} {t : TypeId} {v : Value} (h : Boxed W B t v) (k : Below W.heap.size W W') : Boxed W' B t v := (k.block _ h.lt).trans h
theorem boxed_put {W : World} {B l : Nat} {t : TypeId} {v : Value} {r : Loop} {o : Obj} (h : Boxed W B t v) (hl : W.heap[l]? = some (.loop r)) : Boxed (W.putObj l o) B t v := by
  refine (World.putObj_heap_other ?_).trans h
  rintro rfl
  rw [show W.heap[B]? = _ from h] at hl
  cases hl
theorem low_put {w W : World} {l : Nat} {o : Obj} (h : Below w.heap.size w W) (hl : w.heap.size ≤ l) : Below w.heap.size w (W.putObj l o) :=
  ⟨h.os, h.tape, h.output, by simpa using h.size, fun k hk => (World.putObj_heap_other (by omega)).trans (h.block k hk)⟩
theorem low_set {w W : World} {l : Nat} {v : Value} (h : Below w.heap.size w W) (hl : w.heap.size ≤ l) : Below w.heap.size w (W.setCell ⟨l, 0, none⟩ v) :=
  Chg.below h (Chg.setCell 0 v) hl h.size
theorem Pk.lowr {w W W' : World} {X k : Nat} {vw : Value} (h : Pk w W X vw k) (hb : Below W.heap.size W W') : Pk w W' X vw k :=
  ⟨boxed_low h.bi hb, boxed_low h.bw hb, boxed_low h.br hb, boxed_low h.bk hb, h.low.trans (hb.mono h.low.size)⟩
theorem Pk.put {w W : World} {X k l : Nat} {vw : Value} {r r' : Loop} (h : Pk w W X vw k) (hl : W.heap[l]? = some (.loop r)) (hw : w.heap.size ≤ l) : Pk w (W.putObj l (.loop r')) X vw k :=
  ⟨boxed_put h.bi hl, boxed_put h.bw hl, boxed_put h.br hl, boxed_put h.bk hl, low_put h.low hw⟩
theorem md_low {w A B : World} {X g : Nat} (hA : Below w.heap.size w A) (hB : Below w.heap.size w B) (hs : A.heap.size ≤ B.heap.size) (hX : X < w.heap.size) (hg : g < w.heap.size) : Md [X, g, 0] A B :=
  ⟨hs, fun k hk => by
    simp only [List.mem_cons, List.not_mem_nil, or_false] at hk
    have : k < w.heap.size := by omega
    rw [hB.block k this, hA.block k this]⟩
theorem wb_low {w A : World} {X g : Nat} {v : Value} {ws : List Nat} (h : Wb w X g v ws) (hA : Below w.heap.size w A) (hX : X < w.heap.size) (hg : g < w.heap.size) : Wb A X g v ws :=
  h.md (md_low (Below.refl _ _) hA hA.size hX hg)
theorem lowDrew (W : World) : Below W.heap.size W W.drew := ⟨rfl, rfl, rfl, Nat.le_refl _, fun _ _ => rfl⟩
theorem nth_pre {pre ms : List Int} {x : Int} (h : pre ++ [x] <+: ms) : pre.length < ms.length ∧ ms.getD pre.length 0 = x := by
  obtain ⟨t, rfl⟩ := h
  simp
set_option maxHeartbeats 4000000 in
set_option maxRecDepth 100000 in
theorem pairs_any (X g cap lo : Nat) (ws : List Nat) (vw : Value) (w : World) (hl : ws.length ≤ 1024) (wd : Wd ws) (hb : Wb w X g (.slice (some ⟨g, 0, none⟩) ws.length cap) ws) (hX : X < w.heap.size) (hg : g < w.heap.size) (hw : Hl w lo vw (msL ws.length ws)) (hm : (msL ws.length ws).length ≤ 65536) :
    Calls Tryd.prog 44 #[allB X, vw] w fun e w' => e = .returned (.bool true) ∧ Below w.heap.size w w' := by
  have hmx : Tryd.prog.follows .mixedOrders = true := by kernel_rfl
  obtain ⟨aw, cw, rfl, hw⟩ := hw
  obtain ⟨ms, hms⟩ : ∃ ms, ms = msL ws.length ws := ⟨_, rfl⟩
  obtain ⟨M, hM⟩ : ∃ M, M = ms.length := ⟨_, rfl⟩
  rw [← hms] at hw hm ⊢
  have HB := hid hb
  have HW := hid hw
  have HM := hid hM
  have HMS := hid hms
  rw [← hM] at hm ⊢
  clear hb hw hM hms
  generalize hQ : (fun (e : Ending) (w' : World) => e = .returned (.bool true) ∧ Below w.heap.size w w') = Q
  have HQ := hid hQ
  clear hQ
  unfold allB
  refine (callsIn_wide (n := 6)).1 ?_
  refine callsIn_of_wp_marks Tryd.func44 rfl trivial ?_ rfl
  simp only [Tryd.ntmps44, List.size_toArray, List.length_cons, List.length_nil, Nat.reduceAdd, Nat.reduceSub, Array.replicate_succ, Array.replicate_zero, List.push_toArray, List.append_toArray, List.nil_append, List.cons_append]
  gi_wp2_with fail
  have b4 : Pk w ((((w.alloc (.cells #[.func (.func 64) #[] #[.pointer (some ⟨X, 0, none⟩)]] 62)).alloc (.cells #[.slice aw M cw] 28)).alloc (.cells #[.bool false] 4)).alloc (.cells #[.int .i64 0] 3)) X (.slice aw M cw) 0 := by
    refine ⟨?_, ?_, ?_, ?_, ?_⟩
    · exact (((Boxed.new w _ _).alloc _).alloc _).alloc _
    · have := ((Boxed.new (w.alloc (.cells #[.func (.func 64) #[] #[.pointer (some ⟨X, 0, none⟩)]] 62)) 28 (.slice aw M cw)).alloc (.cells #[.bool false] 4)).alloc (.cells #[.int .i64 0] 3)
      simpa using this
    · have := (Boxed.new ((w.alloc (.cells #[.func (.func 64) #[] #[.pointer (some ⟨X, 0, none⟩)]] 62)).alloc (.cells #[.slice aw M cw] 28)) 4 (.bool false)).alloc (.cells #[.int .i64 0] 3)
      simpa using this
    · have := Boxed.new (((w.alloc (.cells #[.func (.func 64) #[] #[.pointer (some ⟨X, 0, none⟩)]] 62)).alloc (.cells #[.slice aw M cw] 28)).alloc (.cells #[.bool false] 4)) 3 (.int .i64 0)
      simpa using this
    · exact ((((Below.refl _ w).alloc (Nat.le_refl _) _).alloc (by simp) _).alloc (by simp; omega) _).alloc (by simp; omega) _
  have hs4 : ((((w.alloc (.cells #[.func (.func 64) #[] #[.pointer (some ⟨X, 0, none⟩)]] 62)).alloc (.cells #[.slice aw M cw] 28)).alloc (.cells #[.bool false] 4)).alloc (.cells #[.int .i64 0] 3)).heap.size = w.heap.size + 4 := by simp
  generalize ((((w.alloc (.cells #[.func (.func 64) #[] #[.pointer (some ⟨X, 0, none⟩)]] 62)).alloc (.cells #[.slice aw M cw] 28)).alloc (.cells #[.bool false] 4)).alloc (.cells #[.int .i64 0] 3)) = w0 at b4 hs4 ⊢
  have B4 := hid b4
  have hb4 := b4.low.size
  have HS := hid hs4
  clear hs4 b4
  refine walkO (by decide) X g cap 0 ws hl wd rfl rfl (wb_low HB.out B4.out.low hX hg) (by have := HS.out; omega) (by have := HS.out; omega)
    (fun pre W => Pk w W X (.slice aw M cw) pre.length) (fun _ _ => False)
    ?_ ?_ ?_ B4.out (fun x a' W => ∃ ib, w.heap.size + 4 ≤ ib ∧ Boxed W ib 3 (.int .i64 x) ∧ a' = { tmps := #[allB X, .slice aw M cw, .pointer (some ⟨w.heap.size, 0, none⟩), .pointer (some ⟨w.heap.size + 1, 0, none⟩), .pointer (some ⟨w.heap.size + 1 + 1, 0, none⟩), .pointer (some ⟨w.heap.size + 1 + 1 + 1, 0, none⟩), .pointer (some ⟨ib, 0, none⟩), undef, undef, allB X, .int .i64 x, undef, undef, undef, undef, undef, undef, undef, undef, undef, undef, undef, undef, undef, undef, undef, undef, undef, undef, undef, undef, undef, undef, undef, undef, undef, undef, undef, undef, undef, undef, undef, undef, undef, undef, undef, undef, undef, undef, undef, undef, undef], defers := [] }) ?_ ?_ ?_ ?_ ?_
  · rintro pre W W' h k
    exact h.lowr k
  · rintro pre W l r r' h hl' hr
    exact h.put hr (by have := HS.out; omega)
  · rintro pre W l r r' h
    exact h.elim
  · rintro x a' W l r r' ⟨ib, h1, h2, h3⟩ hr
    exact ⟨ib, h1, boxed_put h2 hr, h3⟩
  · rintro l x W K hWs hK
    have HK := hid hK
    clear hK
    gi_wp2
    refine HK.out _ _ ⟨W.heap.size, by have := HS.out; omega, Boxed.new W _ _, rfl⟩ (lowAlloc W _)
  · rintro l pre x a' W ⟨ib, hib, hbx, rfl⟩ hll ⟨r0, hr0⟩ hI hpre
    rw [← HMS.out] at hpre
    obtain ⟨hp1, hp2⟩ := nth_pre hpre
    rw [← HM.out] at hp1
    have hwc : ∃ b0 off, aw = some ⟨b0, off, none⟩ ∧ W.cell? ⟨b0, off + pre.length, none⟩ = some (.int .i64 x) := by
      rcases HW.out with e | ⟨b0, off, e, _, hlt, hc⟩
      · rw [HM.out, e] at hp1; cases hp1
      · refine ⟨b0, off, e, (hI.low.cell (p := ⟨b0, off + pre.length, none⟩) hlt).trans ?_⟩
        rw [hc _ (by rw [← HM.out]; exact hp1), hp2]
    obtain ⟨b0, off, rfl, hcz⟩ := hwc
    have hk := hI.bk.cell
    have hw1 := hI.bw.cell
    have hic := hbx.cell
    have hit := hI.bi.cell
    have HI := hid hI
    have HBX := hid hbx
    have HR0 := hid hr0
    have HPR := hid hpre
    obtain ⟨np, hnp⟩ : ∃ np, np = pre.length := ⟨_, rfl⟩
    rw [← hnp] at hp1 hcz hk HI
    have HNP := hid hnp
    have hp1' : (np : Int) < (M : Int) := by omega
    have hp1n : ¬ (M ≤ np) := by omega
    have hp1d : decide (M ≤ np) = false := by simp; omega
    clear hI hbx hr0 hpre hp2 hnp
    gi_wp2_with fail
    refine wpIn_mono (Q := fun e a' w' => e = .normal ∧ w' = W.drew ∧ ∃ u11 u12 u13 u14 u15 u16 u17 u18 u19 u20 u21, a' = { tmps := #[allB X, .slice (some ⟨b0, off, none⟩) M cw, .pointer (some ⟨w.heap.size, 0, none⟩), .pointer (some ⟨w.heap.size + 1, 0, none⟩), .pointer (some ⟨w.heap.size + 1 + 1, 0, none⟩), .pointer (some ⟨w.heap.size + 1 + 1 + 1, 0, none⟩), .pointer (some ⟨ib, 0, none⟩), undef, undef, allB X, .int .i64 x, u11, u12, u13, u14, u15, u16, u17, u18, u19, u20, u21, .bool false, undef, undef, undef, undef, undef, undef, undef, undef, undef, undef, undef, undef, undef, undef, undef, undef, undef, undef, undef, undef, undef, undef, undef, undef, undef, undef, undef, undef, undef], defers := [] }) ?_ ?_
    · gi_region_with_o (fail)
      all_goals exact ⟨rfl, rfl, _, _, _, _, _, _, _, _, _, _, _, rfl⟩
    rintro e a' V ⟨rfl, hV, u11, u12, u13, u14, u15, u16, u17, u18, u19, u20, u21, rfl⟩
    have lV : Below W.heap.size W V := by rw [hV]; exact lowDrew W
    have hVs : V.heap.size = W.heap.size := by rw [hV]; rfl
    clear hV
    have lA := lowAlloc V (.cells #[.int .i64 0] 3)
    have lW : Below W.heap.size W (V.alloc (.cells #[.int .i64 0] 3)) := belowT lV lA
    have HWL := hid HI.out.low
    have HI3 := hid (HI.out.lowr lW)
    have HBX3 := hid (boxed_low HBX.out lW)
    have hr3 : (V.alloc (.cells #[.int .i64 0] 3)).heap[l]? = some (.loop r0) := (lW.block _ (lt_of_block HR0.out)).trans HR0.out
    have hit3 := HI3.out.bi.cell
    have KB3 := hid (Kb.low (base := w0.heap.size) lW)
    have HJ3 := hid (Boxed.new V 3 (.int .i64 0))
    obtain ⟨jb, hjb⟩ : ∃ jb, jb = W.heap.size := ⟨_, rfl⟩
    have hsz : w.heap.size + 4 ≤ jb := by have h1 := HI.out.bk.lt; rw [hjb]; omega
    have hij : ib < jb := by rw [hjb]; exact HBX.out.lt
    rw [hVs, ← hjb] at HJ3
    have hzV : (V.alloc (.cells #[.int .i64 0] 3)).heap.size = jb + 1 := by simp [hVs, hjb]
    have HZV := hid hzV
    clear hzV
    clear hk hw1 hic hit HI HBX HR0 lA
    gi_wp2_with fail
    rw [← hjb]
    clear hjb
    generalize V.alloc (.cells #[.int .i64 0] 3) = W3 at *
    have hXW : X < W3.heap.size := by have := HI3.out.low.size; omega
    have hgW : g < W3.heap.size := by have := HI3.out.low.size; omega
    refine walkN (by decide) hr3 X g cap 2 ws hl wd rfl rfl (wb_low HB.out HI3.out.low hX hg) hXW hgW
      (fun p2 U => Pk w U X (.slice (some ⟨b0, off, none⟩) M cw) np ∧ Boxed U ib 3 (.int .i64 x) ∧ Boxed U jb 3 (.int .i64 (p2.length : Int)) ∧ Kb w0.heap.size W U ∧ W3.heap.size ≤ U.heap.size)
      (fun p2 U => Pk w U X (.slice (some ⟨b0, off, none⟩) M cw) np ∧ Kb w0.heap.size W U ∧ W3.heap.size ≤ U.heap.size)
      ?_ ?_ ?_ ⟨HI3.out, HBX3.out, HJ3.out, KB3.out, Nat.le_refl _⟩ (fun y a' _ => a' = { tmps := #[allB X, .slice (some ⟨b0, off, none⟩) M cw, .pointer (some ⟨w.heap.size, 0, none⟩), .pointer (some ⟨w.heap.size + 1, 0, none⟩), .pointer (some ⟨w.heap.size + 1 + 1, 0, none⟩), .pointer (some ⟨w.heap.size + 1 + 1 + 1, 0, none⟩), .pointer (some ⟨ib, 0, none⟩), .pointer (some ⟨jb, 0, none⟩), .int .i64 y, allB X, .int .i64 x, u11, u12, u13, u14, u15, u16, u17, u18, u19, u20, u21, .bool false, allB X, .int .i64 y, undef, undef, undef, undef, undef, undef, undef, undef, undef, undef, undef, undef, undef, undef, undef, undef, undef, undef, undef, undef, undef, undef, undef, undef, undef, undef, undef], defers := [] }) (fun _ _ _ _ _ _ h _ => h) ?_ ?_ ?_ ?_
    · rintro p2 U U' ⟨h1, h2, h3, h4, h5⟩ k
      exact ⟨h1.lowr k, boxed_low h2 k, boxed_low h3 k, h4.trans (Kb.low k), Nat.le_trans h5 k.size⟩
    · rintro p2 U l' r r' ⟨h1, h2, h3, h4, h5⟩ hl' hr'
      exact ⟨h1.put hr' (by have := HI3.out.low.size; omega), boxed_put h2 hr', boxed_put h3 hr', ⟨by simpa using h4.size, fun k o hk h6 h7 => (World.putObj_heap_other (by have := lt_of_block h6; have := KB3.out.size; omega)).trans (h4.same k o hk h6 h7)⟩, by simpa using h5⟩
    · rintro p2 U l' r r' ⟨h1, h4, h5⟩ hl' hr'
      exact ⟨h1.put hr' (by have := HI3.out.low.size; omega), ⟨by simpa using h4.size, fun k o hk h6 h7 => (World.putObj_heap_other (by have := lt_of_block h6; have := KB3.out.size; omega)).trans (h4.same k o hk h6 h7)⟩, by simpa using h5⟩
    · rintro l' y U K hU hK
      have HK := hid hK
      clear hK
      gi_wp2
      exact HK.out _ _ rfl (Below.refl _ _)
    · rintro l' p2 y a' U rfl ⟨h1, h2, h3, h4, h5⟩ hp2
      rw [← HMS.out] at hp2
      obtain ⟨hq1, hq2⟩ := nth_pre hp2
      rw [← HM.out] at hq1
      obtain ⟨n2, hn2⟩ : ∃ n2, n2 = p2.length := ⟨_, rfl⟩
      have hyc : U.cell? ⟨b0, off + n2, none⟩ = some (.int .i64 y) := by
        rcases HW.out with e | ⟨b9, off9, e, _, hlt, hc⟩
        · rw [HM.out, e] at hq1; cases hq1
        · injection e with e; injection e with e1 e2
          subst e1 e2
          refine (h1.low.cell (p := ⟨b0, off + n2, none⟩) hlt).trans ?_
          rw [hn2, hc _ (by rw [← HM.out]; exact hq1), hq2]
      rw [← hn2] at h3 hq1
      have HN2 := hid hn2
      have hjc := h3.cell
      have hjf := h3.frozen
      have hwc2 := h1.bw.cell
      have hic2 := h2.cell
      have H1 := hid h1
      have H2 := hid h2
      have H3 := hid h3
      have H4 := hid h4
      have H5 := hid h5
      have hq1' : (n2 : Int) < (M : Int) := by omega
      have hq1n : ¬ (M ≤ n2) := by omega
      have hq1d : decide (M ≤ n2) = false := by simp; omega
      clear h1 h2 h3 h4 h5 hp2 hq2 hn2
      have st : Chg jb U (U.setCell ⟨jb, 0, none⟩ (.int .i64 ((n2 : Int) + 1))) := Chg.setCell 0 _
      have kb : Hid (∀ base, Kb base U (U.setCell ⟨jb, 0, none⟩ (.int .i64 ((n2 : Int) + 1)))) := hid (fun base => Kb.chg st (fun o ho => by rw [show U.heap[jb]? = _ from H3.out] at ho; cases ho; rfl))
      have lo2 := hid (low_set (v := .int .i64 ((n2 : Int) + 1)) H1.out.low (show w.heap.size ≤ jb by omega))
      have pk2 : Hid (Pk w (U.setCell ⟨jb, 0, none⟩ (.int .i64 ((n2 : Int) + 1))) X (.slice (some ⟨b0, off, none⟩) M cw) np) := hid ⟨H1.out.bi.other (by omega) _, H1.out.bw.other (by omega) _, H1.out.br.other (by omega) _, H1.out.bk.other (by omega) _, lo2.out⟩
      have bi2 := hid (H2.out.other (show ib ≠ jb by omega) (.int .i64 ((n2 : Int) + 1)))
      have bj2 := hid (H3.out.set (.int .i64 ((n2 : Int) + 1)))
      have sz2 : Hid (W3.heap.size ≤ (U.setCell ⟨jb, 0, none⟩ (.int .i64 ((n2 : Int) + 1))).heap.size) := hid (by simpa using H5.out)
      have el : (((p2 ++ [y]).length : Nat) : Int) = (n2 : Int) + 1 := by rw [List.length_append, ← HN2.out]; simp
      have EL := hid el
      have hic3 := bi2.out.cell
      have hjc3 := bj2.out.cell
      clear st el
      by_cases hyx : x ≤ y
      · gi_wp2_with fail
        exact ⟨kb.out _, pk2.out, H4.out.trans (kb.out _), H5.out⟩
      · by_cases hj20 : (20 : Int) < (n2 : Int) + 1
        · gi_wp2_with fail
          exact ⟨kb.out _, pk2.out, H4.out.trans (kb.out _), H5.out⟩
        · gi_wp2_with fail
          exact ⟨kb.out _, md_low H1.out.low lo2.out (by simp) hX hg, pk2.out, bi2.out, by rw [← HN2.out]; exact bj2.out, H4.out.trans (kb.out _), H5.out⟩
    · rintro U ⟨h1, h2, h3, h4, h5⟩
      have HP := hid h1
      have HK1 := hid h4
      clear h1 h2 h3 h4 h5
      have hkc := HP.out.bk.cell
      have hkf := HP.out.bk.frozen
      gi_wp2_with fail
      have st : Chg (w.heap.size + 1 + 1 + 1) U (U.setCell ⟨w.heap.size + 1 + 1 + 1, 0, none⟩ (.int .i64 ((np : Int) + 1))) := Chg.setCell 0 _
      have lo' := low_set (v := .int .i64 ((np : Int) + 1)) HP.out.low (show w.heap.size ≤ w.heap.size + 1 + 1 + 1 by omega)
      refine ⟨HK1.out.trans (Kb.chg st (fun o ho => by rw [show U.heap[w.heap.size + 1 + 1 + 1]? = _ from HP.out.bk] at ho; cases ho; rfl)), md_low HWL.out lo' (Nat.le_trans HK1.out.size (by simp)) hX hg, ?_⟩
      refine ⟨HP.out.bi.other (by omega) _, HP.out.bw.other (by omega) _, HP.out.br.other (by omega) _, ?_, lo'⟩
      have e : ((pre.length + 1 : Nat) : Int) = (np : Int) + 1 := by rw [← HNP.out]; omega
      rw [e]
      exact HP.out.bk.set _
    · rintro p2 U ⟨h1, h4, h5⟩
      have HP := hid h1
      have HK1 := hid h4
      clear h1 h4 h5
      have hkc := HP.out.bk.cell
      have hkf := HP.out.bk.frozen
      gi_wp2_with fail
      have st : Chg (w.heap.size + 1 + 1 + 1) U (U.setCell ⟨w.heap.size + 1 + 1 + 1, 0, none⟩ (.int .i64 ((np : Int) + 1))) := Chg.setCell 0 _
      have lo' := low_set (v := .int .i64 ((np : Int) + 1)) HP.out.low (show w.heap.size ≤ w.heap.size + 1 + 1 + 1 by omega)
      refine ⟨HK1.out.trans (Kb.chg st (fun o ho => by rw [show U.heap[w.heap.size + 1 + 1 + 1]? = _ from HP.out.bk] at ho; cases ho; rfl)), md_low HWL.out lo' (Nat.le_trans HK1.out.size (by simp)) hX hg, ?_⟩
      refine ⟨HP.out.bi.other (by omega) _, HP.out.bw.other (by omega) _, HP.out.br.other (by omega) _, ?_, lo'⟩
      have e : ((pre.length + 1 : Nat) : Int) = (np : Int) + 1 := by rw [← HNP.out]; omega
      rw [e]
      exact HP.out.bk.set _
  · rintro D W hD hI hd
    rw [← HMS.out, ← HM.out] at hI
    have hk := hI.bk.cell
    have hw1 := hI.bw.cell
    have hr1 := hI.br.cell
    have hrf := hI.br.frozen
    have HI := hid hI
    have HD := hid hd
    clear hI hd
    gi_wp2
    have hs := HS.out
    have hDd : (W.setCell ⟨w.heap.size + 1 + 1, 0, none⟩ (.bool true)).heap[D]? = some (.deferred (some [])) := (heap_setCell_other _ _ _ _ (by show D ≠ w.heap.size + 1 + 1; omega)).trans HD.out
    refine ⟨by simp, .inl ⟨_, _, rfl, run_takeDeferred hDd, ?_⟩⟩
    have hbx : Boxed ((W.setCell ⟨w.heap.size + 1 + 1, 0, none⟩ (.bool true)).putObj D (.deferred none)) (w.heap.size + 1 + 1) 4 (.bool true) := (World.putObj_heap_other (by omega)).trans (HI.out.br.set _)
    have hlow : Below w.heap.size w ((W.setCell ⟨w.heap.size + 1 + 1, 0, none⟩ (.bool true)).putObj D (.deferred none)) := low_put (low_set HI.out.low (by omega)) (by omega)
    have xc := hbx.cell
    have HLW := hid hlow
    clear hbx hlow hDd hs
    generalize (W.setCell ⟨w.heap.size + 1 + 1, 0, none⟩ (.bool true)).putObj D (.deferred none) = Z at *
    simp [LeavesInM, LeavesIn, results, Tryd.results44, go_sem, xc]
    rw [← HQ.out]
    exact ⟨rfl, HLW.out⟩
  · rintro D pre W _ _ h
    exact h.elim
end Go.Proofs.YtkagdmhijjfnnaaDoor
