import Derived.Test.YtnlohjcjboelgaaRSubB
import Derived.Deep.RegionHeld3
namespace Go.Proofs.Ytnlohjcjboelgaa.L
open Go.RowKit
set_option linter.unusedVariables false
theorem set_far {W : World} {g k : Nat} {u v : Value} (h : W.cell? ⟨g, k * 2, none⟩ = some u) : (W.setCell ⟨g, k * 2 + 1, none⟩ v).cell? ⟨g, k * 2, none⟩ = some u := by
  have e : (W.setCell ⟨g, k * 2 + 1, none⟩ v).cell? ⟨g, k * 2, none⟩ = W.cell? ⟨g, k * 2, none⟩ := World.cell?_setCell_other _ _ _ _ (by intro e; injection e with _ e2; omega)
  rw [e]; exact h
def RSubPost (l c : List It) (w w' : World) (v : Value) (s : ByteArray) (er : Int) : Prop :=
  (∃ k, lackAt l c c.length 0 = some k ∧ s = nm c k ∧ v = .slice none 0 0 ∧ er = 29) ∨
  (lackAt l c c.length 0 = none ∧ w'.ownsRow w.heap.size 41 2 v (nonz ((mrg 40 l c).map fun z => (z.1, z.2.1 - z.2.2))).length (cellsF (nonz ((mrg 40 l c).map fun z => (z.1, z.2.1 - z.2.2)))) ∧ s = ByteArray.empty ∧ er = 0)
set_option maxHeartbeats 8000000 in
set_option maxRecDepth 100000 in
theorem rsub_good (v1 v2 : Value) (l c : List It) (w : World) (i1 : Items w v1 l) (i2 : Items w v2 c) (g1 : Good l) (g2 : Good c) (o1 : checkN l = 0) (o2 : checkN c = 0) (hlen : (bothL l c).length ≤ 32) :
    Calls Try.prog 14 #[v1, v2] w fun e w' => ∃ v s er, e = .returned (.tuple #[v, .string s, .int .i64 er]) ∧ Below w.heap.size w w' ∧ RSubPost l c w w' v s er := by
  have SO := hid (fun (A : List It) (e1 : A.length = (bothL l c).length) (e2 : ∀ i, i < A.length → nm A i = nm (bothL l c) i) (e3 : ∀ i, i < A.length → am A i = getN l (nm (bothL l c) i) - getN c (nm (bothL l c) i)) => sorts_of (A := A) (fun z => z.2.1 - z.2.2) (by have := check_len o1; have := check_len o2; omega) (up_of o1) (up_of o2) (fun x hx => (right_mem o1 g1 x hx).2.1) (fun z hz => (mrg_right o1 o2 g1 g2 40 z hz).1) e1 e2 (fun i hi z hz e => by
    have gg := mrg_get 40 l c (by have := check_len o1; have := check_len o2; omega) (up_of o1) (up_of o2) z hz
    rw [e3 i hi, get_eq, get_eq, ← e, gg.1, gg.2]))
  have NMB := hid (show ∀ i, i < (bothL l c).length → (nm (bothL l c) i).size ≤ maxLen from fun i hi => by
    obtain ⟨z, hz, e⟩ := mrg_of_both (by have := check_len o1; have := check_len o2; omega) i hi
    have := mrg_right o1 o2 g1 g2 40 z hz
    rw [← e]
    exact this.2.1)
  have NMC := hid (show ∀ i, i < c.length → (nm c i).size ≤ maxLen ∧ 0 < am c i ∧ am c i ≤ 9223372036854775807 from fun i hi => by
    obtain ⟨x, hx, e1, e2⟩ := nm_mem hi
    have := right_mem o2 g2 x hx
    rw [e1, e2]
    exact ⟨this.2.2.2, this.2.1, this.2.2.1⟩)
  have GB := hid (show ∀ s, 0 ≤ getN l s ∧ getN l s ≤ 9223372036854775807 ∧ 0 ≤ getN c s ∧ getN c s ≤ 9223372036854775807 from fun s => ⟨get_nonneg o1 s l.length 0 (by omega), (get_bound l s g1 l.length 0 (by omega)).2, get_nonneg o2 s c.length 0 (by omega), (get_bound c s g2 c.length 0 (by omega)).2⟩)
  have GL := hid (fun W s (hB : Below w.heap.size w W) (hs : s.size ≤ maxLen) => rget_any v1 l s W (i1.low hB) g1 hs)
  have GU := hid (fun W s (hB : Below w.heap.size w W) (hs : s.size ≤ maxLen) => rget_any v2 c s W (i2.low hB) g2 hs)
  have RI := hid (fun W v A (h : Items W v A) (h1 : A.length ≤ 32) (h2 : Sorts A ((mrg 40 l c).map fun z => (z.1, z.2.1 - z.2.2))) => rising_any v A ((mrg 40 l c).map fun z => (z.1, z.2.1 - z.2.2)) W h h1 h2)
  have C1 := hid (rcheck_any v1 l w i1 g1)
  have C2 := hid (fun n => rcheck_any v2 c (w.drewN n) (i2.lowN n) g2)
  have BO := hid (fun W (hB : Below w.heap.size w W) => both_any v1 v2 l c W (i1.low hB) (i2.low hB) g1 g2 (check_len o1) (check_len o2))
  rw [o1] at C1
  rw [o2] at C2
  change Hid (∀ W, Below w.heap.size w W → Calls Try.prog 23 #[v1, v2] W fun e w' => ∃ v, e = .returned v ∧ w'.ownsRow W.heap.size 41 2 v (bothL l c).length (cellsF (bothL l c)) ∧ Below W.heap.size W w') at BO
  obtain ⟨B, hB⟩ : ∃ B, B = bothL l c := ⟨_, rfl⟩
  rw [← hB] at BO hlen
  rw [← hB] at SO NMB
  have EB := hid hB
  have hc16 := check_len o2
  obtain ⟨a2, c2, rfl, x2⟩ := i2
  obtain ⟨n2, hn2⟩ : ∃ n, n = c.length := ⟨_, rfl⟩
  have N2 := hid hn2
  rw [← hn2] at x2 NMC hc16 C2 BO GU ⊢
  clear hB i1 g1 g2 o1 o2 hn2
  go_enter Try.func14, Try.ntmps14
  go_wp2_with fail
  refine C1.out.mono ?_
  rintro e w1 ⟨rfl, n1, hww⟩
  subst hww
  go_wp2_with fail
  refine (C2.out n1).mono ?_
  rintro e w1 ⟨rfl, n3, hww⟩
  subst hww
  go_wp2_with fail
  go_loopw [8] (fun i wr => ∃ k : Nat, k ≤ n2 ∧ i = .int .i64 k ∧ Hid (lackAt l c c.length 0 = lackAt l c (n2 - k) k) ∧ Hid (Below w.heap.size w wr)) (fun i _ => n2 - (intOf i).toNat)
  case atStart => exact ⟨0, Nat.zero_le _, rfl, hid (by rw [N2.out]; rfl), hid (below_drewN (Below.refl _ _) _)⟩
  case round =>
    obtain ⟨k, hk, rfl, HK, BW⟩ := hrel
    by_cases hlt : k < n2
    · rcases x2 with h0 | ⟨b, off, rfl, hbl, hc⟩
      · omega
      obtain ⟨p0, p1⟩ := hc k hlt
      rw [← BW.out.cell (p := ⟨b, off + k * 2, none⟩) hbl] at p0
      rw [← BW.out.cell (p := ⟨b, off + k * 2 + 1, none⟩) hbl] at p1
      obtain ⟨m1, m2, m3⟩ := NMC.out k hlt
      have HST := hid (HK.out.trans (lackAt_step l c n2 k hlt))
      have GL2 := hid (fun m => GL.out (wr.drewN m) (nm c k) (below_drewN BW.out m) m1)
      obtain ⟨x0, x1, y0, y1⟩ := GB.out (nm c k)
      clear hc HK
      by_cases lk : getN l (nm c k) < am c k
      · have HE := hid (HST.out.trans (if_pos lk))
        have SK := hid (show ∃ s, s = nm c k from ⟨_, rfl⟩)
        obtain ⟨s, hs⟩ := SK.out
        have ES := hid hs
        rw [← hs] at p0 GL2 lk
        generalize getN l s = x at *
        generalize am c k = z at *
        clear SK hs HST
        go_wp2_with fail
        go_quiet ((go_at_call_of 24 v1; exact Calls.quiet_of (GL2.out _)))
        go_wp2_with fail
        try (go_quiet (fail))
        try (go_wp2_with fail)
        go_ret3
        exact ⟨_, _, _, rfl, by first | exact BW.out | exact below_drewN BW.out _ | exact below_drewN (below_drewN BW.out _) _, Or.inl ⟨k, HE.out, ES.out, rfl, rfl⟩⟩
      · have HE := hid (HST.out.trans (if_neg lk))
        generalize getN l (nm c k) = x at *
        generalize am c k = z at *
        generalize nm c k = s at *
        clear HST
        go_wp2_with fail
        go_quiet ((go_at_call_of 24 v1; exact Calls.quiet_of (GL2.out _)))
        go_wp2_with fail
        exact ⟨⟨k + 1, by omega, by go_num, HE, hid (below_drewN BW.out _)⟩, by simp [intOf]; omega⟩
    · obtain rfl : k = n2 := by omega
      have HN := hid (show lackAt l c c.length 0 = none from by rw [HK.out, Nat.sub_self]; rfl)
      clear HK
      go_wp2_with fail
      refine (BO.out _ BW.out).mono ?_
      rintro e w1 ⟨v, rfl, hown, hb1⟩
      have BE := hid (show Below w.heap.size w w1 from BW.out.trans (hb1.mono BW.out.size))
      have hown := own_wider hown BW.out.size
      clear hb1
      rcases own_form hown with ⟨rfl, hz⟩ | ⟨g, cap, rfl, hg1, hg2⟩
      · have OW := hid hown
        clear hown
        have N0 := hid hz
        go_wp2_with fail
        refine wp_loop_rounds 1 ?_
        rw [rounds_succ]
        go_wp2_with fail
        refine (RI.out _ _ [] ⟨_, _, rfl, Or.inl rfl⟩ (by decide) (SO.out [] (by rw [N0.out]; rfl) (fun i hi => by simp at hi) (fun i hi => by simp at hi))).mono ?_
        rintro e w2 ⟨v', rfl, ho, hb2⟩
        have B2 := hid (BE.out.trans (hb2.mono BE.out.size))
        have O2 := hid (own_wider ho BE.out.size)
        clear ho hb2
        go_wp2_with fail
        go_ret3
        exact ⟨_, _, _, rfl, B2.out, Or.inr ⟨HN.out, O2.out, rfl, rfl⟩⟩
      · have OW := hid hown
        obtain ⟨len, hle⟩ : ∃ n, n = B.length := ⟨_, rfl⟩
        have EL := hid hle
        rw [← hle] at hlen OW NMB SO ⊢
        clear hown hle
        have BW0 := BW
        clear BW
        go_wp2_with fail
        go_loopw [10] (fun i wr => ∃ (k : Nat) (A : List It), k ≤ len ∧ i = .int .i64 k ∧ Hid (A.length = len) ∧ Hid (∀ j, j < len → nm A j = nm B j) ∧ Hid (∀ j, j < k → am A j = getN l (nm B j) - getN c (nm B j)) ∧ Hid (Below w.heap.size w wr) ∧ Hid (wr.ownsRow w.heap.size 41 2 (.slice (some ⟨g, 0, none⟩) len cap) len (cellsF A))) (fun i _ => len - (intOf i).toNat)
        case atStart => exact ⟨0, B, Nat.zero_le _, rfl, hid EL.out.symm, hid (fun _ _ => rfl), hid (fun j hj => by omega), BE, OW⟩
        case round =>
          clear OW BE BW0
          obtain ⟨k, A, hk, rfl, LA, NA, VA, BW, OW⟩ := hrel
          have hgw : g < wr.heap.size := by
            rcases own_form OW.out with ⟨e, _⟩ | ⟨g', cap', e, _, h⟩
            · cases e
            · cases e; exact h
          by_cases hlt : k < len
          · have hat := cellsF_at A k (by rw [LA.out]; exact hlt)
            have c0 : wr.cell? ⟨g, k * 2, none⟩ = some (.string (nm B k)) := by rw [OW.out.cellAt _ (by omega), hat.1, NA.out k hlt]
            have c1 : wr.cell? ⟨g, k * 2 + 1, none⟩ = some (.int .i64 (am A k)) := by rw [OW.out.cellAt _ (by omega), hat.2]
            have f1 : wr.frozen? ⟨g, k * 2 + 1, none⟩ = false := OW.out.frozenAt _
            have ns := NMB.out k hlt
            obtain ⟨x0, x1, y0, y1⟩ := GB.out (nm B k)
            have GL2 := hid (show ∀ W, (∃ n, W = wr.drewN n) → Calls Try.prog 24 #[v1, .string (nm B k)] W fun e w' => e = .returned (.int .i64 (getN l (nm B k))) ∧ ∃ n, w' = wr.drewN n from by
              rintro W ⟨n, rfl⟩
              refine (GL.out (wr.drewN n) (nm B k) (below_drewN BW.out n) ns).mono ?_
              rintro e w' ⟨rfl, n', rfl⟩
              exact ⟨rfl, n + n', drewN_add _ _ _⟩)
            have GU2 := hid (show ∀ W, (∃ n, W = wr.drewN n) → Calls Try.prog 24 #[_, .string (nm B k)] W fun e w' => e = .returned (.int .i64 (getN c (nm B k))) ∧ ∃ n, w' = wr.drewN n from by
              rintro W ⟨n, rfl⟩
              refine (GU.out (wr.drewN n) (nm B k) (below_drewN BW.out n) ns).mono ?_
              rintro e w' ⟨rfl, n', rfl⟩
              exact ⟨rfl, n + n', drewN_add _ _ _⟩)
            have hAk : k < A.length := by rw [LA.out]; exact hlt
            have LA2 := hid (show (A.set k (nm A k, getN l (nm B k) - getN c (nm B k))).length = len by rw [List.length_set]; exact LA.out)
            have NA2 := hid (show ∀ j, j < len → nm (A.set k (nm A k, getN l (nm B k) - getN c (nm B k))) j = nm B j from fun j hj => by rw [nm_set _ _ _ _ hAk]; exact NA.out j hj)
            have VN := hid (show ∀ j, j < k + 1 → am (A.set k (nm A k, getN l (nm B k) - getN c (nm B k))) j = getN l (nm B j) - getN c (nm B j) from fun j hj => by
              rw [am_set _ _ _ _ hAk]
              by_cases e : j = k
              · rw [if_pos e, e]
              · rw [if_neg e]
                exact VA.out j (by omega))
            have OS := hid (show ∀ m, ((wr.drewN m).setCell ⟨g, k * 2 + 1, none⟩ (.int .i64 (getN l (nm B k) - getN c (nm B k)))).ownsRow w.heap.size 41 2 (.slice (some ⟨g, 0, none⟩) len cap) len (cellsF (A.set k (nm A k, getN l (nm B k) - getN c (nm B k)))) from fun m => by
              have o := (World.ownsRow.stored (own_low OW.out (below_drewN (Below.refl _ _) m) BW.out.size) (k * 2 + 1) (.int .i64 (getN l (nm B k) - getN c (nm B k)))).1
              rw [cellsF_set _ _ _ hAk] at o
              exact o)
            generalize A.set k (nm A k, getN l (nm B k) - getN c (nm B k)) = A2 at *
            generalize getN l (nm B k) = x at *
            generalize getN c (nm B k) = y at *
            generalize nm B k = s at *
            generalize am A k = z at *
            clear hat x2
            go_wp2_with fail
            have T0 : wr.drew.cell? ⟨g, k * 2, none⟩ = some (.string s) := c0
            go_region_held3 (fun W => W.cell? ⟨g, k * 2, none⟩ = some (.string s))
              (first | exact T0 | exact T1 | exact T2 | exact T3 _)
              (first
                | (go_at_call_of 24 v1; refine (GL2.out _ ?_).mono ?_; exact ⟨1, rfl⟩; rintro e w2 ⟨rfl, hd2⟩; have T1 : w2.cell? ⟨g, k * 2, none⟩ = some (.string s) := (by obtain ⟨_, rfl⟩ := hd2; exact c0))
                | (go_at_call_of 24 c2; refine (GU2.out _ hd2).mono ?_; rintro e w3 ⟨rfl, hd3⟩; have T2 : w3.cell? ⟨g, k * 2, none⟩ = some (.string s) := (by obtain ⟨_, rfl⟩ := hd3; exact c0); have C3 : w3.cell? ⟨g, k * 2 + 1, none⟩ = some (.int .i64 z) := (by obtain ⟨_, rfl⟩ := hd3; exact c1); have F3 : w3.frozen? ⟨g, k * 2 + 1, none⟩ = false := (by obtain ⟨_, rfl⟩ := hd3; exact f1); have T3 := (fun v => set_far (v := v) T2)))
            obtain ⟨_, rfl⟩ := hd3
            go_wp2_with fail
            exact ⟨⟨k + 1, A2, by omega, by go_num, LA2, NA2, VN, hid ((below_drewN BW.out _).setCell hg1 _), hid (OS.out _)⟩, by simp [intOf]; omega⟩
          · obtain rfl : k = len := by omega
            have SRT := hid (SO.out A LA.out (fun i hi => NA.out i (by rw [← LA.out]; exact hi)) (fun i hi => VA.out i (by rw [← LA.out]; exact hi)))
            have AIT := hid (show Items wr (.slice (some ⟨g, 0, none⟩) k cap) A from by have o := OW.out; rw [← LA.out, cellsF_eq] at o; have := items_own o; rw [LA.out] at this; exact this)
            have AL := hid (show A.length ≤ 32 by rw [LA.out]; omega)
            go_wp2_with fail
            refine (RI.out _ _ A AIT.out AL.out SRT.out).mono ?_
            rintro e w2 ⟨v', rfl, ho, hb2⟩
            have B2 := hid (BW.out.trans (hb2.mono BW.out.size))
            have O2 := hid (own_wider ho BW.out.size)
            clear ho hb2
            go_wp2_with fail
            go_ret3
            exact ⟨_, _, _, rfl, B2.out, Or.inr ⟨HN.out, O2.out, rfl, rfl⟩⟩
end Go.Proofs.Ytnlohjcjboelgaa.L
