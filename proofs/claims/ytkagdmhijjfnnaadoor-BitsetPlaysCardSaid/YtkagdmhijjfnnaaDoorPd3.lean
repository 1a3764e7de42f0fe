import Derived.Test.YtkagdmhijjfnnaaDoorMgAO
namespace Go.Proofs.YtkagdmhijjfnnaaDoor
open Go.RowKit Bs
set_option linter.unusedVariables false
theorem pk_len (al ot bo : Bool) (xs ys : List Int) : (pk al ot bo xs ys).length ≤ xs.length + ys.length := by
  have o : ∀ b x, (one b x).length ≤ 1 := by intro b x; unfold one; cases b <;> simp
  induction xs, ys using pk_ind with
  | h1 ys => unfold pk; cases ot <;> simp
  | h2 x xs => unfold pk; cases al <;> simp
  | h3 x xs y ys c ih =>
    unfold pk; rw [if_pos c, List.length_append]
    have := o al x
    simp at *; omega
  | h4 x xs y ys c d ih =>
    unfold pk; rw [if_neg c, if_pos d, List.length_append]
    have := o ot y
    simp at *; omega
  | h5 x xs y ys c d ih =>
    unfold pk; rw [if_neg c, if_neg d, List.length_append]
    have := o bo x
    simp at *; omega
abbrev OwnI (w : World) (base : Nat) (v : Value) (zs : List Int) : Prop := w.ownsRow base 3 1 v zs.length (zs.map (Value.int .i64))
/-- What stands in the midst of pick. -/
structure Pi (w wr : World) (v : Value) (al ot bo : Bool) (A B : List Int) (x y : Nat) : Prop where
  ex : ∃ zs, OwnI wr w.heap.size v zs ∧ zs ++ pk al ot bo (A.drop x) (B.drop y) = pk al ot bo A B
  low : Below w.heap.size w wr
theorem Pi.pass {w wr : World} {v : Value} {al ot bo : Bool} {A B : List Int} {x y x' y' : Nat} (h : Pi w wr v al ot bo A B x y) {z : Int} {fl : Bool} (hf : fl = false) (e : pk al ot bo (A.drop x) (B.drop y) = one fl z ++ pk al ot bo (A.drop x') (B.drop y')) : Pi w wr v al ot bo A B x' y' := by
  subst hf
  obtain ⟨⟨zs, o, k⟩, b⟩ := h
  exact ⟨⟨zs, o, by rw [e] at k; exact k⟩, b⟩
theorem own_drewN {w : World} {base n : Nat} {e : TypeId} {sz : Nat} {v : Value} {xs : List Value} (o : w.ownsRow base e sz v n xs) (k : Nat) : (w.drewN k).ownsRow base e sz v n xs :=
  o.kept (row := none) ⟨rfl, rfl, rfl, Nat.le_refl _, fun k _ _ => rfl⟩ (by cases v.ownBlock <;> simp)
theorem one_t {b : Bool} {x : Int} (h : b = true) : one b x = [x] := by subst h; rfl
theorem Pi.drew {w wr : World} {v : Value} {al ot bo : Bool} {A B : List Int} {x y : Nat} (h : Pi w wr v al ot bo A B x y) (n : Nat) : Pi w (wr.drewN n) v al ot bo A B x y := by
  obtain ⟨⟨zs, o, k⟩, b⟩ := h
  refine ⟨⟨zs, o.kept (row := none) ⟨rfl, rfl, rfl, Nat.le_refl _, fun k _ _ => rfl⟩ (by cases v.ownBlock <;> simp), k⟩, ⟨b.os, b.tape, b.output, b.size, b.block⟩⟩
set_option maxRecDepth 100000 in
set_option maxHeartbeats 4000000 in
theorem dpick (al ot bo : Bool) (a b : Option Addr) (ca cb : Nat) (A B : List Int) (w : World) (ha : Rd w a A) (hb : Rd w b B) (hA : A.length ≤ 65536) (hB : B.length ≤ 65536) :
    Calls Tryd.prog 96 #[.slice a A.length ca, .slice b B.length cb, .bool al, .bool ot, .bool bo] w fun e w' => ∃ v, e = .returned v ∧ OwnI w' w.heap.size v (pk al ot bo A B) ∧ Below w.heap.size w w' := by
  obtain ⟨i0, hi, hz0, hz1, hz2⟩ := info3
  have RA := hid (fun W (h : Below w.heap.size w W) => ha.low h (Nat.le_refl _))
  have RB := hid (fun W (h : Below w.heap.size w W) => hb.low h (Nat.le_refl _))
  have HPL := hid (pk_len al ot bo A B)
  clear ha hb
  obtain ⟨La, hLa⟩ : ∃ L, L = A.length := ⟨_, rfl⟩
  obtain ⟨Lb, hLb⟩ : ∃ L, L = B.length := ⟨_, rfl⟩
  have HLA := hid hLa
  have HLB := hid hLb
  rw [← hLa] at hA ⊢
  rw [← hLb] at hB ⊢
  clear hLa hLb
  go_enter Tryd.func96, Tryd.ntmps96
  go_wp2_with fail
  go_loopw [11, 12, 13] (fun v i j wr => ∃ x y : Nat, x ≤ La ∧ y ≤ Lb ∧ i = .int .i64 x ∧ j = .int .i64 y ∧ Hid (Pi w wr v al ot bo A B x y)) (fun _ i j _ => (La - (intOf i).toNat) + (Lb - (intOf j).toNat))
  case atStart => exact ⟨0, 0, Nat.zero_le _, Nat.zero_le _, rfl, rfl, hid ⟨⟨[], World.ownsRow_nil _ _ _ _, by simp⟩, Below.refl _ _⟩⟩
  case round =>
    obtain ⟨x, y, hx, hy, rfl, rfl, HI⟩ := hrel
    by_cases g1 : x < La
    · by_cases g2 : y < Lb
      · have hxx := g1
        have hxa : x < A.length := by rw [← HLA.out]; exact g1
        rcases RA.out _ HI.out.low with h0 | ⟨ba, oa, rfl, hba, hca⟩
        · have := HLA.out; omega
        have cx := hca x hxa
        clear hca hba
        have hyb : y < B.length := by rw [← HLB.out]; exact g2
        rcases RB.out _ HI.out.low with h0 | ⟨bb, ob, rfl, hbb, hcb⟩
        · have := HLB.out; omega
        have cy := hcb y hyb
        clear hcb hbb
        have E1 := hid (fun h => pk_a (al := al) (ot := ot) (bo := bo) (A := A) (B := B) (i := x) (j := y) hxa (Or.inr h))
        have E2 := hid (fun h => pk_b (al := al) (ot := ot) (bo := bo) (A := A) (B := B) (i := x) (j := y) hyb (Or.inr h))
        have E3 := hid (fun h k => pk_c (al := al) (ot := ot) (bo := bo) (A := A) (B := B) (i := x) (j := y) hxa hyb h k)
        clear hxa hyb RA RB
        generalize A.getD x 0 = z at cx E1 E2 E3
        generalize B.getD y 0 = u at cy E1 E2 E3
        have g1i : (x : Int) < (La : Int) := by omega
        have g1in : x < La := by omega
        have g2i : (y : Int) < (Lb : Int) := by omega
        have g2in : y < Lb := by omega
        have g3i : ¬ (La : Int) ≤ (x : Int) := by omega
        have g3in : ¬ La ≤ x := by omega
        have g4i : ¬ (Lb : Int) ≤ (y : Int) := by omega
        have g4in : ¬ Lb ≤ y := by omega
        by_cases c1 : z < u
        · have E := hid (E1.out c1)
          clear E1 E2 E3
          cases hfl : al
          · have N := hid (HI.out.pass hfl E.out)
            clear HI E
            subst hfl
            go_wp2_with fail
            refine wp_region_quiet_lit (by kernel_rfl) (by kernel_rfl) ?_
            refine q_start (fun R hR => ?_)
            iterate 22 (
              refine q_yes hR (by kernel_rfl) (fun K R' hR' hK => ?_)
              clear hR
              go_simp
              first
                | (refine hK _ ?_; clear hK; have hR := hR'; clear hR')
              )
            refine q_nil hR ?_
            clear hR
            intro _ hw'
            obtain ⟨nq, hw''⟩ := hw'
            subst hw''
            go_wp2_with fail
            exact ⟨⟨x + 1, y, by omega, by omega, by go_num, by go_num, hid (N.out.drew _)⟩, by simp [intOf]; omega⟩
          · obtain ⟨⟨zs, hown, heq⟩, hlow⟩ := HI.out
            rw [E.out, one_t hfl] at heq
            have HQ := hid heq
            have hlen : zs.length + 1 ≤ La + Lb := by
              have h1 := HPL.out
              rw [← HQ.out] at h1
              have h2 := HLA.out
              have h3 := HLB.out
              simp at h1
              omega
            have HO := hid hown
            have HW := hid hlow
            clear heq hown hlow HI E
            subst hfl
            go_wp2_with fail
            refine wp_region_quiet_lit (by kernel_rfl) (by kernel_rfl) ?_
            refine q_start (fun R hR => ?_)
            iterate 22 (
              refine q_yes hR (by kernel_rfl) (fun K R' hR' hK => ?_)
              clear hR
              go_simp
              first
                | (refine hK _ ?_; clear hK; have hR := hR'; clear hR')
              )
            refine q_nil hR ?_
            clear hR
            intro _ hw'
            obtain ⟨nq, hw''⟩ := hw'
            subst hw''
            go_wp2_with (at_builtin; refine wpList_append_own _ rfl _ _ 28 rfl w.heap.size 3 i0 (.int .i64 0) 1 8 Tryd.underlying28 hi hz0 hz1 hz2 rfl (by decide) _ _ _ rfl ((own_drewN HO.out _).alloc _) ⟨wr.heap.size, 0, none⟩ 1 1 [.int .i64 z] rfl rfl ?c1 ?c2 ?c3 ?c4 ?c5 ?_)
            case c1 => exact cell_one_new _ _ _
            case c2 => intro u hu; simp at hu; subst hu; rfl
            case c3 => unfold maxLen; omega
            case c4 => omega
            case c5 => have := HW.out.size; simp; omega
            intro v' w1 hown' hgrow _
            have hb1 : Below w.heap.size w w1 := ((belowT HW.out (belowDrewN _)).alloc HW.out.size _).grown hgrow (by have := HW.out.size; simp; omega) (owns_block HO.out)
            have N := hid (show Pi w w1 v' _ _ _ A B (x + 1) (y) from ⟨⟨zs ++ [z], by unfold OwnI; rw [List.length_append, List.map_append]; exact hown', by rw [List.append_assoc]; exact HQ.out⟩, hb1⟩)
            clear hown' hgrow hb1 HO HW HQ
            go_wp2_with fail
            exact ⟨⟨x + 1, y, by omega, by omega, by go_num, by go_num, N⟩, by simp [intOf]; omega⟩
        · by_cases c2 : u < z
          · have E := hid (E2.out c2)
            clear E1 E2 E3
            generalize hzz : z = z0 at *
            clear hzz
            generalize hzu : u = z at *
            clear hzu
            cases hfl : ot
            · have N := hid (HI.out.pass hfl E.out)
              clear HI E
              subst hfl
              go_wp2_with fail
              refine wp_region_quiet_lit (by kernel_rfl) (by kernel_rfl) ?_
              refine q_start (fun R hR => ?_)
              iterate 22 (
                refine q_yes hR (by kernel_rfl) (fun K R' hR' hK => ?_)
                clear hR
                go_simp
                first
                  | (refine hK _ ?_; clear hK; have hR := hR'; clear hR')
                )
              refine q_nil hR ?_
              clear hR
              intro _ hw'
              obtain ⟨nq, hw''⟩ := hw'
              subst hw''
              go_wp2_with fail
              refine wp_region_quiet_lit (by kernel_rfl) (by kernel_rfl) ?_
              refine q_start (fun R hR => ?_)
              iterate 16 (
                refine q_yes hR (by kernel_rfl) (fun K R' hR' hK => ?_)
                clear hR
                go_simp
                first
                  | (refine hK _ ?_; clear hK; have hR := hR'; clear hR')
                )
              refine q_nil hR ?_
              clear hR
              intro _ hw'
              obtain ⟨nq, hw''⟩ := hw'
              subst hw''
              go_wp2_with fail
              exact ⟨⟨x, y + 1, by omega, by omega, by go_num, by go_num, hid (N.out.drew _)⟩, by simp [intOf]; omega⟩
            · obtain ⟨⟨zs, hown, heq⟩, hlow⟩ := HI.out
              rw [E.out, one_t hfl] at heq
              have HQ := hid heq
              have hlen : zs.length + 1 ≤ La + Lb := by
                have h1 := HPL.out
                rw [← HQ.out] at h1
                have h2 := HLA.out
                have h3 := HLB.out
                simp at h1
                omega
              have HO := hid hown
              have HW := hid hlow
              clear heq hown hlow HI E
              subst hfl
              go_wp2_with fail
              refine wp_region_quiet_lit (by kernel_rfl) (by kernel_rfl) ?_
              refine q_start (fun R hR => ?_)
              iterate 22 (
                refine q_yes hR (by kernel_rfl) (fun K R' hR' hK => ?_)
                clear hR
                go_simp
                first
                  | (refine hK _ ?_; clear hK; have hR := hR'; clear hR')
                )
              refine q_nil hR ?_
              clear hR
              intro _ hw'
              obtain ⟨nq, hw''⟩ := hw'
              subst hw''
              go_wp2_with fail
              refine wp_region_quiet_lit (by kernel_rfl) (by kernel_rfl) ?_
              refine q_start (fun R hR => ?_)
              iterate 16 (
                refine q_yes hR (by kernel_rfl) (fun K R' hR' hK => ?_)
                clear hR
                go_simp
                first
                  | (refine hK _ ?_; clear hK; have hR := hR'; clear hR')
                )
              refine q_nil hR ?_
              clear hR
              intro _ hw'
              obtain ⟨nq, hw''⟩ := hw'
              subst hw''
              go_wp2_with (at_builtin; refine wpList_append_own _ rfl _ _ 28 rfl w.heap.size 3 i0 (.int .i64 0) 1 8 Tryd.underlying28 hi hz0 hz1 hz2 rfl (by decide) _ _ _ rfl ((own_drewN HO.out _).alloc _) ⟨wr.heap.size, 0, none⟩ 1 1 [.int .i64 z] rfl rfl ?c1 ?c2 ?c3 ?c4 ?c5 ?_)
              case c1 => exact cell_one_new _ _ _
              case c2 => intro u hu; simp at hu; subst hu; rfl
              case c3 => unfold maxLen; omega
              case c4 => omega
              case c5 => have := HW.out.size; simp; omega
              intro v' w1 hown' hgrow _
              have hb1 : Below w.heap.size w w1 := ((belowT HW.out (belowDrewN _)).alloc HW.out.size _).grown hgrow (by have := HW.out.size; simp; omega) (owns_block HO.out)
              have N := hid (show Pi w w1 v' _ _ _ A B (x) (y + 1) from ⟨⟨zs ++ [z], by unfold OwnI; rw [List.length_append, List.map_append]; exact hown', by rw [List.append_assoc]; exact HQ.out⟩, hb1⟩)
              clear hown' hgrow hb1 HO HW HQ
              go_wp2_with fail
              exact ⟨⟨x, y + 1, by omega, by omega, by go_num, by go_num, N⟩, by simp [intOf]; omega⟩
          · have E := hid (E3.out c1 c2)
            clear E1 E2 E3
            cases hfl : bo
            · have N := hid (HI.out.pass hfl E.out)
              clear HI E
              subst hfl
              go_wp2_with fail
              refine wp_region_quiet_lit (by kernel_rfl) (by kernel_rfl) ?_
              refine q_start (fun R hR => ?_)
              iterate 22 (
                refine q_yes hR (by kernel_rfl) (fun K R' hR' hK => ?_)
                clear hR
                go_simp
                first
                  | (refine hK _ ?_; clear hK; have hR := hR'; clear hR')
                )
              refine q_nil hR ?_
              clear hR
              intro _ hw'
              obtain ⟨nq, hw''⟩ := hw'
              subst hw''
              go_wp2_with fail
              refine wp_region_quiet_lit (by kernel_rfl) (by kernel_rfl) ?_
              refine q_start (fun R hR => ?_)
              iterate 16 (
                refine q_yes hR (by kernel_rfl) (fun K R' hR' hK => ?_)
                clear hR
                go_simp
                first
                  | (refine hK _ ?_; clear hK; have hR := hR'; clear hR')
                )
              refine q_nil hR ?_
              clear hR
              intro _ hw'
              obtain ⟨nq, hw''⟩ := hw'
              subst hw''
              go_wp2_with fail
              exact ⟨⟨x + 1, y + 1, by omega, by omega, by go_num, by go_num, hid (N.out.drew _)⟩, by simp [intOf]; omega⟩
            · obtain ⟨⟨zs, hown, heq⟩, hlow⟩ := HI.out
              rw [E.out, one_t hfl] at heq
              have HQ := hid heq
              have hlen : zs.length + 1 ≤ La + Lb := by
                have h1 := HPL.out
                rw [← HQ.out] at h1
                have h2 := HLA.out
                have h3 := HLB.out
                simp at h1
                omega
              have HO := hid hown
              have HW := hid hlow
              clear heq hown hlow HI E
              subst hfl
              go_wp2_with fail
              refine wp_region_quiet_lit (by kernel_rfl) (by kernel_rfl) ?_
              refine q_start (fun R hR => ?_)
              iterate 22 (
                refine q_yes hR (by kernel_rfl) (fun K R' hR' hK => ?_)
                clear hR
                go_simp
                first
                  | (refine hK _ ?_; clear hK; have hR := hR'; clear hR')
                )
              refine q_nil hR ?_
              clear hR
              intro _ hw'
              obtain ⟨nq, hw''⟩ := hw'
              subst hw''
              go_wp2_with fail
              refine wp_region_quiet_lit (by kernel_rfl) (by kernel_rfl) ?_
              refine q_start (fun R hR => ?_)
              iterate 16 (
                refine q_yes hR (by kernel_rfl) (fun K R' hR' hK => ?_)
                clear hR
                go_simp
                first
                  | (refine hK _ ?_; clear hK; have hR := hR'; clear hR')
                )
              refine q_nil hR ?_
              clear hR
              intro _ hw'
              obtain ⟨nq, hw''⟩ := hw'
              subst hw''
              go_wp2_with (at_builtin; refine wpList_append_own _ rfl _ _ 28 rfl w.heap.size 3 i0 (.int .i64 0) 1 8 Tryd.underlying28 hi hz0 hz1 hz2 rfl (by decide) _ _ _ rfl ((own_drewN HO.out _).alloc _) ⟨wr.heap.size, 0, none⟩ 1 1 [.int .i64 z] rfl rfl ?c1 ?c2 ?c3 ?c4 ?c5 ?_)
              case c1 => exact cell_one_new _ _ _
              case c2 => intro u hu; simp at hu; subst hu; rfl
              case c3 => unfold maxLen; omega
              case c4 => omega
              case c5 => have := HW.out.size; simp; omega
              intro v' w1 hown' hgrow _
              have hb1 : Below w.heap.size w w1 := ((belowT HW.out (belowDrewN _)).alloc HW.out.size _).grown hgrow (by have := HW.out.size; simp; omega) (owns_block HO.out)
              have N := hid (show Pi w w1 v' _ _ _ A B (x + 1) (y + 1) from ⟨⟨zs ++ [z], by unfold OwnI; rw [List.length_append, List.map_append]; exact hown', by rw [List.append_assoc]; exact HQ.out⟩, hb1⟩)
              clear hown' hgrow hb1 HO HW HQ
              go_wp2_with fail
              exact ⟨⟨x + 1, y + 1, by omega, by omega, by go_num, by go_num, N⟩, by simp [intOf]; omega⟩
      · have hy9 : y = Lb := by omega
        have hxa : x < A.length := by rw [← HLA.out]; exact g1
        rcases RA.out _ HI.out.low with h0 | ⟨ba, oa, rfl, hba, hca⟩
        · have := HLA.out; omega
        have cx := hca x hxa
        clear hca hba
        have E := hid (pk_a (al := al) (ot := ot) (bo := bo) (A := A) (B := B) (i := x) (j := y) hxa (Or.inl (by have := HLB.out; omega)))
        clear hxa RA RB hy9
        generalize A.getD x 0 = z at cx E
        have g1i : (x : Int) < (La : Int) := by omega
        have g1in : x < La := by omega
        have g2i : ¬ (y : Int) < (Lb : Int) := by omega
        have g2in : ¬ y < Lb := by omega
        have g3i : ¬ (La : Int) ≤ (x : Int) := by omega
        have g3in : ¬ La ≤ x := by omega
        have g4i : (Lb : Int) ≤ (y : Int) := by omega
        have g4in : Lb ≤ y := by omega
        cases hfl : al
        · have N := hid (HI.out.pass hfl E.out)
          clear HI E
          subst hfl
          go_wp2_with fail
          refine wp_region_quiet_lit (by kernel_rfl) (by kernel_rfl) ?_
          refine q_start (fun R hR => ?_)
          iterate 5 (
            refine q_yes hR (by kernel_rfl) (fun K R' hR' hK => ?_)
            clear hR
            go_simp
            first
              | (refine hK _ ?_; clear hK; have hR := hR'; clear hR')
            )
          iterate 15 (
            refine q_no hR (by kernel_rfl) (fun K R' hR' hK => ?_)
            clear hR
            go_simp
            refine hK _ ?_
            clear hK; have hR := hR'; clear hR')
          iterate 2 (
            refine q_yes hR (by kernel_rfl) (fun K R' hR' hK => ?_)
            clear hR
            go_simp
            first
              | (refine hK _ ?_; clear hK; have hR := hR'; clear hR')
            )
          refine q_nil hR ?_
          clear hR
          intro _ hw'
          obtain ⟨nq, hw''⟩ := hw'
          subst hw''
          go_wp2_with fail
          exact ⟨⟨x + 1, y, by omega, by omega, by go_num, by go_num, hid (N.out.drew _)⟩, by simp [intOf]; omega⟩
        · obtain ⟨⟨zs, hown, heq⟩, hlow⟩ := HI.out
          rw [E.out, one_t hfl] at heq
          have HQ := hid heq
          have hlen : zs.length + 1 ≤ La + Lb := by
            have h1 := HPL.out
            rw [← HQ.out] at h1
            have h2 := HLA.out
            have h3 := HLB.out
            simp at h1
            omega
          have HO := hid hown
          have HW := hid hlow
          clear heq hown hlow HI E
          subst hfl
          go_wp2_with fail
          refine wp_region_quiet_lit (by kernel_rfl) (by kernel_rfl) ?_
          refine q_start (fun R hR => ?_)
          iterate 5 (
            refine q_yes hR (by kernel_rfl) (fun K R' hR' hK => ?_)
            clear hR
            go_simp
            first
              | (refine hK _ ?_; clear hK; have hR := hR'; clear hR')
            )
          iterate 15 (
            refine q_no hR (by kernel_rfl) (fun K R' hR' hK => ?_)
            clear hR
            go_simp
            refine hK _ ?_
            clear hK; have hR := hR'; clear hR')
          iterate 2 (
            refine q_yes hR (by kernel_rfl) (fun K R' hR' hK => ?_)
            clear hR
            go_simp
            first
              | (refine hK _ ?_; clear hK; have hR := hR'; clear hR')
            )
          refine q_nil hR ?_
          clear hR
          intro _ hw'
          obtain ⟨nq, hw''⟩ := hw'
          subst hw''
          go_wp2_with (at_builtin; refine wpList_append_own _ rfl _ _ 28 rfl w.heap.size 3 i0 (.int .i64 0) 1 8 Tryd.underlying28 hi hz0 hz1 hz2 rfl (by decide) _ _ _ rfl ((own_drewN HO.out _).alloc _) ⟨wr.heap.size, 0, none⟩ 1 1 [.int .i64 z] rfl rfl ?c1 ?c2 ?c3 ?c4 ?c5 ?_)
          case c1 => exact cell_one_new _ _ _
          case c2 => intro u hu; simp at hu; subst hu; rfl
          case c3 => unfold maxLen; omega
          case c4 => omega
          case c5 => have := HW.out.size; simp; omega
          intro v' w1 hown' hgrow _
          have hb1 : Below w.heap.size w w1 := ((belowT HW.out (belowDrewN _)).alloc HW.out.size _).grown hgrow (by have := HW.out.size; simp; omega) (owns_block HO.out)
          have N := hid (show Pi w w1 v' _ _ _ A B (x + 1) (y) from ⟨⟨zs ++ [z], by unfold OwnI; rw [List.length_append, List.map_append]; exact hown', by rw [List.append_assoc]; exact HQ.out⟩, hb1⟩)
          clear hown' hgrow hb1 HO HW HQ
          go_wp2_with fail
          exact ⟨⟨x + 1, y, by omega, by omega, by go_num, by go_num, N⟩, by simp [intOf]; omega⟩
    · have hx9 : x = La := by omega
      by_cases g2 : y < Lb
      · have hyy := hx9
        have hyb : y < B.length := by rw [← HLB.out]; exact g2
        rcases RB.out _ HI.out.low with h0 | ⟨bb, ob, rfl, hbb, hcb⟩
        · have := HLB.out; omega
        have cy := hcb y hyb
        clear hcb hbb
        have E := hid (pk_b (al := al) (ot := ot) (bo := bo) (A := A) (B := B) (i := x) (j := y) hyb (Or.inl (by have := HLA.out; omega)))
        clear hyb RA RB hx9 hyy
        generalize B.getD y 0 = z at cy E
        have g1i : ¬ (x : Int) < (La : Int) := by omega
        have g1in : ¬ x < La := by omega
        have g2i : (y : Int) < (Lb : Int) := by omega
        have g2in : y < Lb := by omega
        have g3i : (La : Int) ≤ (x : Int) := by omega
        have g3in : La ≤ x := by omega
        have g4i : ¬ (Lb : Int) ≤ (y : Int) := by omega
        have g4in : ¬ Lb ≤ y := by omega
        cases hfl : ot
        · have N := hid (HI.out.pass hfl E.out)
          clear HI E
          subst hfl
          go_wp2_with fail
          refine wp_region_quiet_lit (by kernel_rfl) (by kernel_rfl) ?_
          refine q_start (fun R hR => ?_)
          iterate 10 (
            refine q_yes hR (by kernel_rfl) (fun K R' hR' hK => ?_)
            clear hR
            go_simp
            first
              | (refine hK _ ?_; clear hK; have hR := hR'; clear hR')
            )
          iterate 9 (
            refine q_no hR (by kernel_rfl) (fun K R' hR' hK => ?_)
            clear hR
            go_simp
            refine hK _ ?_
            clear hK; have hR := hR'; clear hR')
          iterate 3 (
            refine q_yes hR (by kernel_rfl) (fun K R' hR' hK => ?_)
            clear hR
            go_simp
            first
              | (refine hK _ ?_; clear hK; have hR := hR'; clear hR')
            )
          refine q_nil hR ?_
          clear hR
          intro _ hw'
          obtain ⟨nq, hw''⟩ := hw'
          subst hw''
          go_wp2_with fail
          refine wp_region_quiet_lit (by kernel_rfl) (by kernel_rfl) ?_
          refine q_start (fun R hR => ?_)
          iterate 5 (
            refine q_yes hR (by kernel_rfl) (fun K R' hR' hK => ?_)
            clear hR
            go_simp
            first
              | (refine hK _ ?_; clear hK; have hR := hR'; clear hR')
            )
          iterate 9 (
            refine q_no hR (by kernel_rfl) (fun K R' hR' hK => ?_)
            clear hR
            go_simp
            refine hK _ ?_
            clear hK; have hR := hR'; clear hR')
          iterate 2 (
            refine q_yes hR (by kernel_rfl) (fun K R' hR' hK => ?_)
            clear hR
            go_simp
            first
              | (refine hK _ ?_; clear hK; have hR := hR'; clear hR')
            )
          refine q_nil hR ?_
          clear hR
          intro _ hw'
          obtain ⟨nq, hw''⟩ := hw'
          subst hw''
          go_wp2_with fail
          exact ⟨⟨x, y + 1, by omega, by omega, by go_num, by go_num, hid (N.out.drew _)⟩, by simp [intOf]; omega⟩
        · obtain ⟨⟨zs, hown, heq⟩, hlow⟩ := HI.out
          rw [E.out, one_t hfl] at heq
          have HQ := hid heq
          have hlen : zs.length + 1 ≤ La + Lb := by
            have h1 := HPL.out
            rw [← HQ.out] at h1
            have h2 := HLA.out
            have h3 := HLB.out
            simp at h1
            omega
          have HO := hid hown
          have HW := hid hlow
          clear heq hown hlow HI E
          subst hfl
          go_wp2_with fail
          refine wp_region_quiet_lit (by kernel_rfl) (by kernel_rfl) ?_
          refine q_start (fun R hR => ?_)
          iterate 10 (
            refine q_yes hR (by kernel_rfl) (fun K R' hR' hK => ?_)
            clear hR
            go_simp
            first
              | (refine hK _ ?_; clear hK; have hR := hR'; clear hR')
            )
          iterate 9 (
            refine q_no hR (by kernel_rfl) (fun K R' hR' hK => ?_)
            clear hR
            go_simp
            refine hK _ ?_
            clear hK; have hR := hR'; clear hR')
          iterate 3 (
            refine q_yes hR (by kernel_rfl) (fun K R' hR' hK => ?_)
            clear hR
            go_simp
            first
              | (refine hK _ ?_; clear hK; have hR := hR'; clear hR')
            )
          refine q_nil hR ?_
          clear hR
          intro _ hw'
          obtain ⟨nq, hw''⟩ := hw'
          subst hw''
          go_wp2_with fail
          refine wp_region_quiet_lit (by kernel_rfl) (by kernel_rfl) ?_
          refine q_start (fun R hR => ?_)
          iterate 5 (
            refine q_yes hR (by kernel_rfl) (fun K R' hR' hK => ?_)
            clear hR
            go_simp
            first
              | (refine hK _ ?_; clear hK; have hR := hR'; clear hR')
            )
          iterate 9 (
            refine q_no hR (by kernel_rfl) (fun K R' hR' hK => ?_)
            clear hR
            go_simp
            refine hK _ ?_
            clear hK; have hR := hR'; clear hR')
          iterate 2 (
            refine q_yes hR (by kernel_rfl) (fun K R' hR' hK => ?_)
            clear hR
            go_simp
            first
              | (refine hK _ ?_; clear hK; have hR := hR'; clear hR')
            )
          refine q_nil hR ?_
          clear hR
          intro _ hw'
          obtain ⟨nq, hw''⟩ := hw'
          subst hw''
          go_wp2_with (at_builtin; refine wpList_append_own _ rfl _ _ 28 rfl w.heap.size 3 i0 (.int .i64 0) 1 8 Tryd.underlying28 hi hz0 hz1 hz2 rfl (by decide) _ _ _ rfl ((own_drewN HO.out _).alloc _) ⟨wr.heap.size, 0, none⟩ 1 1 [.int .i64 z] rfl rfl ?c1 ?c2 ?c3 ?c4 ?c5 ?_)
          case c1 => exact cell_one_new _ _ _
          case c2 => intro u hu; simp at hu; subst hu; rfl
          case c3 => unfold maxLen; omega
          case c4 => omega
          case c5 => have := HW.out.size; simp; omega
          intro v' w1 hown' hgrow _
          have hb1 : Below w.heap.size w w1 := ((belowT HW.out (belowDrewN _)).alloc HW.out.size _).grown hgrow (by have := HW.out.size; simp; omega) (owns_block HO.out)
          have N := hid (show Pi w w1 v' _ _ _ A B (x) (y + 1) from ⟨⟨zs ++ [z], by unfold OwnI; rw [List.length_append, List.map_append]; exact hown', by rw [List.append_assoc]; exact HQ.out⟩, hb1⟩)
          clear hown' hgrow hb1 HO HW HQ
          go_wp2_with fail
          exact ⟨⟨x, y + 1, by omega, by omega, by go_num, by go_num, N⟩, by simp [intOf]; omega⟩
      · obtain ⟨⟨zs, hown, heq⟩, hlow⟩ := HI.out
        rw [pk_end (by have := HLA.out; omega) (by have := HLB.out; omega), List.append_nil] at heq
        rw [heq] at hown
        have HO := hid hown
        have HW := hid hlow
        clear hown hlow heq HI
        have g1i : ¬ (x : Int) < (La : Int) := by omega
        have g1in : ¬ x < La := by omega
        have g2i : ¬ (y : Int) < (Lb : Int) := by omega
        have g2in : ¬ y < Lb := by omega
        go_wp2_with fail
        go_ret
        exact ⟨_, rfl, HO.out, HW.out⟩
end Go.Proofs.YtkagdmhijjfnnaaDoor
