import Derived.Test.YtdhjoimiejdgbabDoorMm7
namespace Go.Proofs.YtdhjoimiejdgbabDoor.L
open Go.RowKit Bs Go.Maps Go.Shelf
set_option linter.unusedVariables false
set_option maxHeartbeats 8000000 in
set_option maxRecDepth 100000 in
theorem memory_law (v : Value) (os : List Opd) (w : World) (hv : ItemsO w v os) (hg : GoodO os) (ht : Tab w) (hp : Pw w) :
    Calls Tryd.prog 4 #[v] w fun e w' => e = .returned (.bool true) ∧ Below w.heap.size w w' := by
  have FX := hid (fixed_any w ht)
  obtain ⟨a, cap, rfl, hi⟩ := hv
  have hl := hg.1
  have HG := hid hg.2
  obtain ⟨L, hL⟩ : ∃ L, L = os.length := ⟨_, rfl⟩
  rw [← hL] at hl ⊢
  have HI := hid hi
  have HL := hid hL
  have HT := hid ht
  have HP := hid hp
  unfold maxLen at hl
  clear hL hg hi ht hp
  generalize hQ : (fun (e : Ending) (w' : World) => e = .returned (.bool true) ∧ Below w.heap.size w w') = Q
  have HQ := hid hQ
  clear hQ
  go_enter Tryd.func4, Tryd.ntmps4
  go_wp2_with (first
    | (go_at_call 5; refine FX.out.mono ?_; rintro e w1 ⟨rfl, B1⟩)
    | (go_at_call 15; refine (begin_any _).mono ?_; rintro e w2 ⟨B, st0', rfl, hW0, hR0⟩))
  have TA : Hid (TabG w1 []) := hid (fun W hb => (HT.out.low B1).low (hb.below (Nat.le_refl _) (fun k hk => by cases hk)))
  have BW := hid B1
  have H0 : Hid (∃ st, Wh w1 w2 B [] st ∧ Re st) := hid ⟨_, hW0, hR0⟩
  clear hW0 hR0 B1 FX
  go_loopw [35] (fun i wr => ∃ k : Nat, k ≤ L ∧ i = .int .i64 k ∧ Hid (∃ st, Wh w1 wr B [] st ∧ Re st)) (fun i _ => L - (intOf i).toNat)
  case atStart => exact ⟨0, Nat.zero_le _, rfl, H0⟩
  case round =>
    clear H0
    obtain ⟨k, hk, rfl, HX⟩ := hrel
    obtain ⟨st, hWs, hRs⟩ := HX.out
    have HW := hid hWs
    have HR := hid hRs
    clear HX hWs hRs
    by_cases hlt : k < L
    · have hkl : k < os.length := by rw [← HL.out]; exact hlt
      rcases HI.out with h0 | ⟨b, off, ea, hbl, hc⟩
      · omega
      subst ea
      obtain ⟨x0, x1, x2, x3, x4⟩ := hc k hkl
      have BL := hid (BW.out.trans ((HW.out.lo.below (Nat.le_refl _) (fun k hk => by cases hk)).mono BW.out.size))
      rw [← BL.out.cell (p := ⟨b, off + k * 5, none⟩) hbl] at x0
      rw [← BL.out.cell (p := ⟨b, off + k * 5 + 1, none⟩) hbl] at x1
      rw [← BL.out.cell (p := ⟨b, off + k * 5 + 2, none⟩) hbl] at x2
      rw [← BL.out.cell (p := ⟨b, off + k * 5 + 3, none⟩) hbl] at x3
      rw [← BL.out.cell (p := ⟨b, off + k * 5 + 4, none⟩) hbl] at x4
      have hsz := HG.out _ (List.getElem_mem hkl)
      generalize os[k].k = kk at *
      generalize os[k].a = oa at *
      generalize os[k].t = ot at *
      generalize os[k].s = s at *
      generalize os[k].v = ov at *
      have CS := hid (step_op (HW.out.low ((Below.refl wr.heap.size wr).alloc (Nat.le_refl _) (.cells #[.int .i64 kk, .int .i64 oa, .int .i64 ot, .string s, .int .i64 ov] 44))) HR.out TA.out kk oa ot ov s hsz)
      clear hc hkl hsz
      go_wp2_with (go_at_call 16; refine CS.out.mono ?_; rintro e w5 ⟨rfl, hst⟩; have HS5 := hid hst; clear hst)
      exact ⟨⟨k + 1, by omega, by go_num, HS5⟩, by simp [intOf]; omega⟩
    · have hkL : L = k := by omega
      subst hkL
      have H1 : Hid (∃ st, Wh w1 wr B [] st ∧ Re st) := hid ⟨st, HW.out, HR.out⟩
      clear HW HR
      go_wp2_with fail
      go_loopw [44] (fun i wr => ∃ k : Nat, k ≤ 4 ∧ i = .int .i64 k ∧ Hid (∃ st, Wh w1 wr B [] st ∧ Re st)) (fun i _ => 4 - (intOf i).toNat)
      case atStart => exact ⟨0, Nat.zero_le _, rfl, H1⟩
      case round =>
        clear H1
        obtain ⟨k, hk, rfl, HX⟩ := hrel
        obtain ⟨st, hWs, hRs⟩ := HX.out
        have HW := hid hWs
        have HR := hid hRs
        clear HX hWs hRs
        by_cases hlt : k < 4
        · have hPk : Pw wr := HP.out.low (BW.out.trans ((HW.out.lo.below (Nat.le_refl _) (fun k hk => by cases hk)).mono BW.out.size))
          refine x_law _ w1 wr B k st _ _ _ _ _ _ _ _ _ _ _ _ _ _ _ _ _ _ _ _ _ _ _ _ _ _ _ _ _ _ _ _ _ _ _ _ _ _ _ _ _ _ _ _ _ _ _ _ _ _ _ _ _ _ _ _ _ _ _ _ _ _ _ _ _ _ _ _ _ _ _ _ _ _ _ _ _ _ _ _ _ _ _ _ _ _ _ _ _ _ _ _ _ _ _ _ _ _ _ _ _ _ _ _ _ _ _ _ _ _ _ _ _ _ _ _ _ _ _ _ _ _ _ _ _ _ _ _ _ _ _ _ _ _ _ _ _ _ _ _ _ _ _ _ _ _ _ _ _ _ _ _ _ _ _ _ _ _ _ _ _ _ _ _ _ _ _ _ _ _ _ _ _ _ _ _ _ _ _ _ _ _ _ _ _ _ _ HW.out HR.out hlt hPk ?_
          intro W' t2 t7 t8 t9 t10 t11 t13 t14 t15 t16 t17 t18 t19 t20 t21 t22 t23 t24 t45 t46 t47 t48 t49 t50 t51 t52 t53 t54 t55 t56 t57 t58 t59 t60 t61 t62 t63 t64 t65 t66 t67 t68 t69 t70 t71 t72 t73 t74 t75 t76 t77 t78 t79 t80 t81 t82 t83 t84 t85 t86 t87 t88 t89 t90 t91 t92 t93 t94 t95 t96 t97 t98 t99 t100 t101 t102 t103 t104 t105 t106 t107 t108 t109 t110 t111 t112 t113 t114 t115 t116 t117 t118 t119 t120 t121 t122 t123 t124 t125 t126 t127 t128 t129 t130 t131 t132 t133 t134 t135 t136 t137 t138 t139 t140 t141 t142 t143 t144 t145 t146 t147 t148 t149 t150 t151 t152 t153 t154 t155 t156 t157 t158 t159 t160 t161 t162 t163 t164 t165 t166 t167 t168 t169 t170 t171 t172 t173 t174 t175 t176 t177 t178 t179 t180 t181 t182 t183 t184 t185 t186 t187 t188 hB
          have HB := hid (HW.out.low hB)
          clear hB HW hPk
          go_wp2_with fail
          exact ⟨⟨k + 1, by omega, by go_num, hid ⟨st, HB.out, HR.out⟩⟩, by simp [intOf]; omega⟩
        · obtain rfl : k = 4 := by omega
          go_wp2_with fail
          rw [← HQ.out]
          exact ⟨rfl, BW.out.trans ((HW.out.lo.below (Nat.le_refl _) (fun k hk => by cases hk)).mono BW.out.size)⟩
end Go.Proofs.YtdhjoimiejdgbabDoor.L
