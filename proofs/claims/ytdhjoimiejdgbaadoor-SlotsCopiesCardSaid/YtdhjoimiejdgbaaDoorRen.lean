import Derived.Test.YtdhjoimiejdgbaaDoorMgC
import Derived.Deep.RegionWith
namespace Go.Proofs.YtdhjoimiejdgbaaDoor.L
open Go.RowKit Bs Go.Maps
set_option linter.unusedVariables false
theorem rnK_vlu0 {l : List Rw} {k : Nat} (h : k < l.length) : vlu (rnK l k) k = vlu l k := by
  unfold vlu
  rw [rnK_get l k k h, if_neg (by omega), List.getElem?_eq_getElem h]
  have := vlu_at h
  show vlu l k = _
  exact this
theorem Cl.drew {W : World} {base Cb : Nat} {cv : Value} {cs : List Int} (h : Cl W base Cb cv cs) : Cl W.drew base Cb cv cs := ⟨h.bx, h.ow⟩
theorem Tm.not {w : World} {p m mb : Nat} {rs ks : Value} {D : DataW Unit} {l : List Rw} {ws : List Nat} (h : Tm w p m mb rs ks D l ws) (hC : Cp m D l ws) {g : Nat} {cur : Array Value} {t : TypeId} (hg : w.heap[g]? = some (.cells cur t (0, 0))) (ht : t ≠ 122 ∧ t ≠ 124 ∧ t ≠ 129) : g ∉ fp p mb rs ks :=
  Tq.not (pv := .pointer (some ⟨p, 0, none⟩)) (Or.inr ⟨p, rfl, ⟨mb, rs, ks, D, ws, h, hC, rfl⟩⟩) hg ht
theorem rnK_cp {m : Nat} {D : DataW Unit} {l : List Rw} {ws : List Nat} (h : Cp m D l ws) (k : Nat) : Cp m D (rnK l k) ws :=
  ⟨rnK_ok h.ok k, h.mo.same (rnK_cnt l k) (rnK_nm l k), h.wd, fun i => by rw [h.bt, rnK_isT], h.wl⟩
/-- A call of the function leaves the table as it was. -/
theorem Tm.called {w w' : World} {p m mb base Cb : Nat} {rs ks cv : Value} {D : DataW Unit} {l : List Rw} {ws : List Nat} {cs : List Int} (h : Tm w p m mb rs ks D l ws) (hC : Cp m D l ws) (hc : Cl w base Cb cv cs) (hb : Bx (Cb :: cv.ownBlock.toList) w.heap.size w w') : Tm w' p m mb rs ks D l ws :=
  h.frame (fun k hk => hb.block k (h.lt k hk) (fun c => by
    rcases List.mem_cons.1 c with e | e
    · subst e
      exact h.not hC hc.bx (by decide) hk
    · have e2 : cv.ownBlock = some k := by simpa using e
      rcases hc.ow.2 with ⟨ev, _⟩ | ⟨g', cap, cur, ev, _, hh, _⟩
      · rw [ev] at e2; simp [Value.ownBlock] at e2
      · rw [ev] at e2; simp [Value.ownBlock] at e2; subst e2
        exact h.not hC hh (by decide) hk))
theorem Cl.set {w : World} {p m mb base Cb g n cap : Nat} {ks cv : Value} {D : DataW Unit} {l : List Rw} {ws : List Nat} {cs : List Int} (h : Tm w p m mb (.slice (some ⟨g, 0, none⟩) n cap) ks D l ws) (hC : Cp m D l ws) (hc : Cl w base Cb cv cs) (o : Nat) (x : Value) : Cl (w.setCell ⟨g, o, none⟩ x) base Cb cv cs := by
  have hg : g ∈ fp p mb (.slice (some ⟨g, 0, none⟩) n cap) ks := fp_r rfl
  refine ⟨(set_other _ _ (fun e => ?_)).trans hc.bx, own_stays hc.ow (fun k hk => set_other _ _ (fun e => ?_))⟩
  · subst e; exact h.not hC hc.bx (by decide) hg
  · subst e
    rcases hc.ow.2 with ⟨ev, _⟩ | ⟨g', cap', cur, ev, _, hh, _⟩
    · rw [ev] at hk; simp [Value.ownBlock] at hk
    · rw [ev] at hk; simp [Value.ownBlock] at hk; subst hk
      exact h.not hC hh (by decide) hg
theorem Bx.called {base Cb : Nat} {G : List Nat} {cv : Value} {cs : List Int} {w w1 w' : World} (b : Bx G base w w1) (hG : Cb ∈ G) (hc : Cl w1 base Cb cv cs) (hb : Bx (Cb :: cv.ownBlock.toList) w1.heap.size w1 w') (hs : base ≤ w1.heap.size) : Bx G base w w' :=
  b.trans (hb.mono hs (fun k hk => by
    rcases List.mem_cons.1 hk with e | e
    · left; rw [e]; exact hG
    · right
      exact (hc.ow.lt k (by simpa using e)).1))
set_option maxHeartbeats 8000000 in
set_option maxRecDepth 100000 in
theorem renew_any (Cb p m mb : Nat) (rs ks : Value) (D : DataW Unit) (l : List Rw) (ws : List Nat) (w : World) (hT : Tm w p m mb rs ks D l ws) (hC : Cp m D l ws) (hcl : Boxed w Cb 84 (.slice none 0 0)) :
    Calls Tryd.prog 82 #[.pointer (some ⟨p, 0, none⟩), .func (.func 46) #[] #[.pointer (some ⟨Cb, 0, none⟩)]] w fun e w' => e = .returned (.tuple #[]) ∧ Tm w' p m mb rs ks D (rnK l l.length) ws ∧ (∃ cv', Cl w' w.heap.size Cb cv' (clK l l.length)) ∧ Bx (Cb :: rs.ownBlock.toList) w.heap.size w w' := by
  obtain ⟨ra, rc, hrs⟩ := own_len hT.hr
  have hle : l.length ≤ 65536 := Nat.le_trans hC.ok.le hC.ok.mm
  have c2 := hT.c2
  have T0 : Hid (Tm w p m mb rs ks D (rnK l 0) ws ∧ (∃ cv, Cl w w.heap.size Cb cv (clK l 0)) ∧ Bx (Cb :: rs.ownBlock.toList) w.heap.size w w) := hid ⟨by rw [rnK_zero]; exact hT, ⟨_, hcl, rfl, Or.inl ⟨rfl, rfl⟩⟩, Bx.refl _ _ _⟩
  have HC := hid hC
  rw [hrs] at c2
  obtain ⟨N, hN⟩ : ∃ N, N = l.length := ⟨_, rfl⟩
  rw [← hN] at c2 hle hrs
  have HRS := hid hrs
  have HN := hid hN
  clear hN hrs hT hC hcl
  generalize hQ : (fun (e : Ending) (w' : World) => e = .returned (.tuple #[]) ∧ Tm w' p m mb rs ks D (rnK l l.length) ws ∧ (∃ cv', Cl w' w.heap.size Cb cv' (clK l l.length)) ∧ Bx (Cb :: rs.ownBlock.toList) w.heap.size w w') = Q
  have HQ := hid hQ
  clear hQ
  go_enter Tryd.func82, Tryd.ntmps82
  go_wp2_with fail
  go_loopw [10] (fun i wr => ∃ k : Nat, k ≤ N ∧ i = .int .i64 k ∧ Hid (Tm wr p m mb rs ks D (rnK l k) ws ∧ (∃ cv, Cl wr w.heap.size Cb cv (clK l k)) ∧ Bx (Cb :: rs.ownBlock.toList) w.heap.size w wr)) (fun i _ => N - (intOf i).toNat)
  case atStart => exact ⟨0, Nat.zero_le _, rfl, T0⟩
  case round =>
    clear T0 c2
    obtain ⟨k, hk, rfl, HX⟩ := hrel
    obtain ⟨hT, ⟨cv, hcl⟩, hbx⟩ := HX.out
    by_cases hlt : k < N
    · have hkl : k < l.length := by rw [← HN.out]; exact hlt
      obtain ⟨g, cap, hrs, hg, r0, r1⟩ := hT.rows (i := k) (by rw [rnK_len]; exact hkl)
      have ers : Value.slice ra N rc = .slice (some ⟨g, 0, none⟩) N cap := by rw [← HRS.out, hrs, rnK_len, ← HN.out]
      injection ers with e1 _ e3
      subst e1 e3
      have hrs2 := HRS.out
      subst hrs2
      have c2 := hT.c2
      rw [rnK_nm] at r0
      rw [rnK_vlu0 hkl] at r1
      clear hrs
      have CC := hid (rnK_cp HC.out k)
      have HT := hid hT
      have HCL := hid hcl
      have HBX := hid hbx
      have hbs : w.heap.size ≤ wr.heap.size := hbx.size
      cases ht : isT l k
      · have en : nm l k = ⟨#[]⟩ := isT_no.1 ht
        rw [en] at r0
        have RK := hid (rnK_no ht)
        have CK := hid (clK_no ht)
        clear hT hcl hbx HX ht en r1
        go_wp2_with fail
        exact ⟨⟨k + 1, by omega, by go_num, hid ⟨by rw [RK.out]; exact HT.out, ⟨cv, by rw [CK.out]; exact HCL.out⟩, HBX.out⟩⟩, by simp [intOf]; omega⟩
      · have en : ((nm l k).toList == []) = false := by rw [nil_size]; simpa using isT_iff.1 ht
        have z1 := hT.rfz (k * 2 + 1)
        have RK := hid (rnK_yes ht)
        have CK := hid (clK_yes ht)
        have CL := hid (clo_any w.heap.size Cb cv (clK l k) (vlu l k) wr.drew hcl.drew hbs (by rw [clK_len]; have := idx_le l k; omega))
        rw [clK_len] at CL
        have pg : p ≠ g := fun e => by
          have := (hT.ap.2.1 g rfl).1
          exact this e.symm
        clear hT hcl hbx HX ht
        generalize hnm : nm l k = s at *
        have HNM := hid hnm
        clear hnm
        generalize hv : vlu l k = v at *
        have HVV := hid hv
        clear hv
        generalize nwV v (idx l k) = nv at *
        go_wp2_with fail
        go_region_with (first
            | (go_at_call 46; refine CL.out.mono ?_; rintro e w2 ⟨cv', rfl, hc2, hb2⟩
               have TT := hid ((HT.out.frame (w' := wr.drew) (fun _ _ => rfl)).called CC.out HCL.out.drew hb2)
               have BB := hid (Bx.called (HBX.out.drew) (by simp) HCL.out.drew hb2 hbs)
               have C2 := hid hc2
               have T2 := TT.out.c2
               have z2 := TT.out.rfz (k * 2 + 1)
               have r2 : w2.cell? ⟨g, k * 2 + 1, none⟩ = some (.int .i64 v) := (by
                 obtain ⟨g', c', e, _, _, q⟩ := TT.out.rows (i := k) (by rw [rnK_len]; exact hkl)
                 injection e with e1 _ _
                 injection e1 with e1
                 injection e1 with e1 _ _
                 subst e1
                 rw [rnK_vlu0 hkl, HVV.out] at q
                 exact q)
               clear hb2 hc2))
        all_goals (go_wp2_with fail)
        all_goals (
          have T3 := TT.out.setV k nv (by rw [rnK_len]; exact hkl)
          have NN := HNM.out
          rw [rnK_nm, NN, RK.out] at T3
          exact ⟨⟨k + 1, by omega, by go_num, hid ⟨T3, ⟨cv', by rw [CK.out]; exact Cl.set TT.out CC.out C2.out _ _⟩, BB.out.setCell (p := ⟨g, k * 2 + 1, none⟩) (Or.inl (by simp [Value.ownBlock])) _⟩⟩, by simp [intOf]; omega⟩)
    · have hkL : N = k := by omega
      subst hkL
      have HX2 := hid HX.out
      clear hT hcl hbx HX
      go_wp2_with fail
      refine bodyPost_end (v := .tuple #[]) (by simp [results, Tryd.results82]) rfl ?_
      rw [← HQ.out]
      have hx := HX2.out
      rw [HN.out] at hx
      exact ⟨rfl, hx.1, hx.2.1, hx.2.2⟩
end Go.Proofs.YtdhjoimiejdgbaaDoor.L
