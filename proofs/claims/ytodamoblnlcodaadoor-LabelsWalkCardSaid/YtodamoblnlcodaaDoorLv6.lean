import Derived.Test.YtodamoblnlcodaaDoorLv3
namespace Go.Proofs.YtodamoblnlcodaaDoor.L
open Go.RowKit Go.Shelf
set_option linter.unusedVariables false
attribute [local go_sem] Oper.semAt_some
theorem sf_15 : (rtC (rtC (rtC (rtC (rtC (rtC (rtC (rtC (rtC (rtC (rtC (rtC (rtC (rtC (rtC (Option.getD Tryd.f3.body Code.skip)))))))))))))))) = .seq (hdC (rtC (rtC (rtC (rtC (rtC (rtC (rtC (rtC (rtC (rtC (rtC (rtC (rtC (rtC (rtC (Option.getD Tryd.f3.body Code.skip))))))))))))))))) (rtC (rtC (rtC (rtC (rtC (rtC (rtC (rtC (rtC (rtC (rtC (rtC (rtC (rtC (rtC (rtC (Option.getD Tryd.f3.body Code.skip))))))))))))))))) := by kernel_rfl
set_option maxHeartbeats 16000000 in
set_option maxRecDepth 100000 in
theorem seg_15 (R : Exit → Act → World → Prop) (WS W : World) (b5 b6 b7 b12 b15 B n0 : Nat) (E : Int) (wv x1 x2 v1 v2 : Value) (LA LC : List Lb) (u : Nat → Value) (Dl : List Deferred)
    (hE : -9223372036854775808 ≤ E ∧ E ≤ 9223372036854775807) (hS : Wf WS b5 b6 b7 b12 B n0 E wv x1 x2 LA LC) (hW : Below WS.heap.size WS W) (hb15 : WS.heap.size ≤ b15) (hlt15 : b15 < W.heap.size) (ov : Value) (hk : Boxed W b15 3 (.int .i64 0))
    (nx : ∀ (a' : Act) (D : Nat) (W' : World), (∃ u' : Nat → Value, a' = { tmps := #[v1, v2, u' 2, u' 3, u' 4, .pointer (some ⟨b5, 0, none⟩), .pointer (some ⟨b6, 0, none⟩), .pointer (some ⟨b7, 0, none⟩), u' 8, u' 9, u' 10, u' 11, .pointer (some ⟨b12, 0, none⟩), u' 13, u' 14, .pointer (some ⟨b15, 0, none⟩), u' 16, ov, u' 18, u' 19, u' 20, u' 21, u' 22, u' 23, u' 24, u' 25, u' 26, u' 27, u' 28, u' 29, u' 30, u' 31, u' 32, u' 33, u' 34, u' 35, u' 36, u' 37, u' 38, u' 39, u' 40, u' 41, u' 42, u' 43, u' 44, u' 45, u' 46, u' 47, u' 48, u' 49, u' 50, u' 51, u' 52, u' 53, u' 54, u' 55, u' 56, u' 57, u' 58, u' 59, u' 60, u' 61, u' 62, u' 63, u' 64, u' 65, u' 66, u' 67, u' 68, u' 69, u' 70, u' 71, u' 72, u' 73, u' 74, u' 75, u' 76, u' 77, u' 78, u' 79, u' 80, u' 81, u' 82, u' 83, u' 84, u' 85, u' 86, u' 87, u' 88, u' 89, u' 90, u' 91, u' 92, u' 93, u' 94, u' 95, u' 96, u' 97, u' 98, u' 99, u' 100, u' 101, u' 102, u' 103, u' 104, u' 105, u' 106, u' 107, u' 108, u' 109, u' 110, u' 111, u' 112, u' 113, u' 114, u' 115, u' 116, u' 117, u' 118, u' 119, u' 120, u' 121, u' 122, u' 123, u' 124, u' 125, u' 126, u' 127, u' 128, u' 129, u' 130, u' 131, u' 132, u' 133, u' 134, u' 135, u' 136, u' 137, u' 138, u' 139, u' 140, u' 141, u' 142, u' 143, u' 144, u' 145, u' 146, u' 147, u' 148, u' 149, u' 150, u' 151, u' 152, u' 153, u' 154, u' 155, u' 156, u' 157, u' 158, u' 159, u' 160, u' 161, u' 162, u' 163, u' 164, u' 165, u' 166], defers := { target := .collected D, args := #[] } :: Dl } ∧ True) → Ik W b15 (df LA LC).length W' → W.heap.size ≤ D → W'.heap[D]? = some (.deferred (some [])) → (rtC (rtC (rtC (rtC (rtC (rtC (rtC (rtC (rtC (rtC (rtC (rtC (rtC (rtC (rtC (rtC (Option.getD Tryd.f3.body Code.skip))))))))))))))))).wpIn Fence.wide 4 Tryd.prog R a' W') :
    (rtC (rtC (rtC (rtC (rtC (rtC (rtC (rtC (rtC (rtC (rtC (rtC (rtC (rtC (rtC (Option.getD Tryd.f3.body Code.skip)))))))))))))))).wpIn Fence.wide 4 Tryd.prog R { tmps := #[v1, v2, u 2, u 3, u 4, .pointer (some ⟨b5, 0, none⟩), .pointer (some ⟨b6, 0, none⟩), .pointer (some ⟨b7, 0, none⟩), u 8, u 9, u 10, u 11, .pointer (some ⟨b12, 0, none⟩), u 13, u 14, .pointer (some ⟨b15, 0, none⟩), u 16, ov, u 18, u 19, u 20, u 21, u 22, u 23, u 24, u 25, u 26, u 27, u 28, u 29, u 30, u 31, u 32, u 33, u 34, u 35, u 36, u 37, u 38, u 39, u 40, u 41, u 42, u 43, u 44, u 45, u 46, u 47, u 48, u 49, u 50, u 51, u 52, u 53, u 54, u 55, u 56, u 57, u 58, u 59, u 60, u 61, u 62, u 63, u 64, u 65, u 66, u 67, u 68, u 69, u 70, u 71, u 72, u 73, u 74, u 75, u 76, u 77, u 78, u 79, u 80, u 81, u 82, u 83, u 84, u 85, u 86, u 87, u 88, u 89, u 90, u 91, u 92, u 93, u 94, u 95, u 96, u 97, u 98, u 99, u 100, u 101, u 102, u 103, u 104, u 105, u 106, u 107, u 108, u 109, u 110, u 111, u 112, u 113, u 114, u 115, u 116, u 117, u 118, u 119, u 120, u 121, u 122, u 123, u 124, u 125, u 126, u 127, u 128, u 129, u 130, u 131, u 132, u 133, u 134, u 135, u 136, u 137, u 138, u 139, u 140, u 141, u 142, u 143, u 144, u 145, u 146, u 147, u 148, u 149, u 150, u 151, u 152, u 153, u 154, u 155, u 156, u 157, u 158, u 159, u 160, u 161, u 162, u 163, u 164, u 165, u 166], defers := Dl } W := by
  rw [sf_15]
  generalize hT : (rtC (rtC (rtC (rtC (rtC (rtC (rtC (rtC (rtC (rtC (rtC (rtC (rtC (rtC (rtC (rtC (Option.getD Tryd.f3.body Code.skip))))))))))))))))) = TL at *
  clear hT
  simp only [hdC, rtC, Option.getD, Tryd.f3]
  have HS := hid hS
  have HW := hid hW
  have HK := hid hk
  have NX := hid nx
  have S := hS.low hW
  have c12 := S.seq.cell
  have l12 := S.seq.lt
  unfold diffV at c12
  have hn0 := S.hn
  have hB := S.hB
  have l12S := hS.seq.lt
  have l5 := hS.stp.lt
  have l7 := hS.want.lt
  have hnS := hS.hn
  have HSW := hid S
  clear hS hW hk nx S
  gi_wp2
  refine diffO (n := 4) (by decide) B n0 x1 x2 LA LC (.exit 8) (.exit 8) (.inr ⟨8, rfl, rfl⟩) (by first | rfl | simp [diffV]) rfl hn0 hB HSW.out.c1 HSW.out.c2 HSW.out.s1 HSW.out.s2
    (fun pre W' => Ik W b15 pre.length W')
    (fun _ => False)
    (fun pre W1 W2 h hb => h.low hb) (fun W' h => ⟨Lk.low h, boxed_low HK.out h⟩) (fun pre W' l q q' h hl hq => h.put hl hq) (fun W' l q q' h _ _ => h.elim)
    (fun t a' W' => ∃ Bx, W'.heap[Bx]? = some (.cells #[.string t.k, .string t.o, .string t.n, .bool t.had, .bool t.has] 35 (0, 0)) ∧ ∃ u2 : Nat → Value, a' = { tmps := #[v1, v2, u2 2, u2 3, u2 4, .pointer (some ⟨b5, 0, none⟩), .pointer (some ⟨b6, 0, none⟩), .pointer (some ⟨b7, 0, none⟩), u2 8, u2 9, u2 10, u2 11, .pointer (some ⟨b12, 0, none⟩), u2 13, u2 14, .pointer (some ⟨b15, 0, none⟩), u2 16, ov, u2 18, .pointer (some ⟨Bx, 0, none⟩), u2 20, u2 21, u2 22, u2 23, u2 24, u2 25, u2 26, u2 27, u2 28, u2 29, u2 30, u2 31, u2 32, u2 33, u2 34, u2 35, u2 36, u2 37, u2 38, u2 39, u2 40, u2 41, u2 42, u2 43, u2 44, u2 45, u2 46, u2 47, u2 48, u2 49, u2 50, u2 51, u2 52, u2 53, u2 54, u2 55, u2 56, u2 57, u2 58, u2 59, u2 60, u2 61, u2 62, u2 63, u2 64, u2 65, u2 66, u2 67, u2 68, u2 69, u2 70, u2 71, u2 72, u2 73, u2 74, u2 75, u2 76, u2 77, u2 78, u2 79, u2 80, u2 81, u2 82, u2 83, u2 84, u2 85, u2 86, u2 87, u2 88, u2 89, u2 90, u2 91, u2 92, u2 93, u2 94, u2 95, u2 96, u2 97, u2 98, u2 99, u2 100, u2 101, u2 102, u2 103, u2 104, u2 105, u2 106, u2 107, u2 108, u2 109, u2 110, u2 111, u2 112, u2 113, u2 114, u2 115, u2 116, u2 117, u2 118, u2 119, u2 120, u2 121, u2 122, u2 123, u2 124, u2 125, u2 126, u2 127, u2 128, u2 129, u2 130, u2 131, u2 132, u2 133, u2 134, u2 135, u2 136, u2 137, u2 138, u2 139, u2 140, u2 141, u2 142, u2 143, u2 144, u2 145, u2 146, u2 147, u2 148, u2 149, u2 150, u2 151, u2 152, u2 153, u2 154, u2 155, u2 156, u2 157, u2 158, u2 159, u2 160, u2 161, u2 162, u2 163, u2 164, u2 165, u2 166], defers := [] } ∧ True)
    ?hA ?assign ?body ?done ?stop
  case hA =>
    rintro t a' W' l q q' ⟨Bx, h1, h2⟩ h3
    exact ⟨Bx, (World.putObj_heap_other (by intro e; rw [e, h3] at h1; cases h1)).trans h1, h2⟩
  case assign =>
    rintro m l t W' K hz hK
    have HK2 := hid hK
    clear hK
    simp only [dv]
    gi_wp2
    refine HK2.out _ _ ?_ (belowA W' _)
    exact ⟨W'.heap.size, World.alloc_heap_new W' _, ex_u rfl trivial⟩
  case body =>
    rintro m l pre t a' W0 W' ⟨Bx, hbx, u2, rfl, -⟩ hl hlr hrec hlk hi hpre
    have I := hi.reco hlk hl hlr
    obtain ⟨hj, hjt⟩ := at_pre hpre
    have hlow : Below WS.heap.size WS W' := I.lk.below HW.out hb15 HW.out.size
    have hlen := HS.out.len
    have hz := I.lk.size
    have c12' := (boxed_low HS.out.seq hlow).cell
    unfold diffV at c12'
    have HPR := hid hpre
    clear hjt hpre
    have HIT := hid (fun W (h : ItemsD W wv (df LA LC)) => item_at h HPR.out)
    have HIT2 := hid (fun W (pre2 : List Df) (t2 : Df) (h : ItemsD W wv (df LA LC)) (hp : pre2 ++ [t2] <+: df LA LC) => item_at h hp)
    have HAT2 := hid (fun (pre2 : List Df) (t2 : Df) (hp : pre2 ++ [t2] <+: df LA LC) => (at_pre hp).1)
    generalize hNd : (df LA LC).length = N at *
    have hlenp : ((pre ++ [t]).length : Int) = (pre.length : Int) + 1 := by simp
    rw [hlenp]
    have HI := hid I
    have HLW := hid hlow
    have HBX := hid hbx
    have HRC := hid hrec
    have HND := hid hNd
    clear hlr hlk hi I hrec hbx hlow
    generalize hjp : pre.length = k at *
    have HJP := hid hjp
    clear hjp
    have n12 : b12 < W'.heap.size := by omega
    gi_wp2
    obtain ⟨r0, hr0⟩ := HRC.out
    obtain ⟨W5, hW5⟩ : ∃ W5, W5 = W'.alloc (.cells #[.int .i64 0] 3) := ⟨_, rfl⟩
    have b45 : Below W'.heap.size W' W5 := by rw [hW5]; exact belowA W' _
    have x20 : Boxed W5 W'.heap.size 3 (.int .i64 0) := by rw [hW5]; exact Boxed.new W' 3 (.int .i64 0)
    have hz5 : W5.heap.size = W'.heap.size + 1 := by rw [hW5]; simp
    rw [← hW5]
    have hr5 : W5.heap[l]? = some (.loop r0) := (b45.block l (lt_blk hr0)).trans hr0
    have S5 := HS.out.low (HLW.out.trans (b45.mono HLW.out.size))
    have HB45 := hid b45
    have HX20 := hid x20
    have HS5 := hid S5
    clear hW5 b45 x20 S5 c12' c12
    refine diffN (l0 := l) (r0 := r0) hr5 B n0 x1 x2 LA LC (.exit 10) (.exit 10) (.inr ⟨10, rfl, rfl⟩) (by first | rfl | simp [diffV]) rfl HS5.out.hn hB HS5.out.c1 HS5.out.c2 HS5.out.s1 HS5.out.s2
      (fun pre2 W2 => Ik W5 W'.heap.size pre2.length W2 ∧ pre2.length ≤ k)
      (fun W2 => Lk W'.heap.size W5 W2)
      (fun pre2 W1 W2 h hb => ⟨h.1.low hb, h.2⟩) (fun W2 h => ⟨⟨Lk.low h, boxed_low HX20.out h⟩, Nat.zero_le _⟩) (fun pre2 W2 l2 q q' h hl2 hq => ⟨h.1.put hl2 hq, h.2⟩) (fun W2 l2 q q' h hl2 hq => h.put _ hl2)
      (fun t2 a2 W2 => ∃ Bx2 b20, b20 = W'.heap.size ∧ W2.heap[Bx2]? = some (.cells #[.string t2.k, .string t2.o, .string t2.n, .bool t2.had, .bool t2.has] 35 (0, 0)) ∧ ∃ u3 : Nat → Value, a2 = { tmps := #[v1, v2, u3 2, u3 3, u3 4, .pointer (some ⟨b5, 0, none⟩), .pointer (some ⟨b6, 0, none⟩), .pointer (some ⟨b7, 0, none⟩), u3 8, u3 9, u3 10, u3 11, .pointer (some ⟨b12, 0, none⟩), u3 13, u3 14, .pointer (some ⟨b15, 0, none⟩), u3 16, ov, u3 18, .pointer (some ⟨Bx, 0, none⟩), .pointer (some ⟨b20, 0, none⟩), .pointer (some ⟨Bx2, 0, none⟩), u3 22, u3 23, u3 24, u3 25, u3 26, u3 27, u3 28, u3 29, u3 30, u3 31, u3 32, u3 33, u3 34, u3 35, u3 36, u3 37, u3 38, u3 39, u3 40, u3 41, u3 42, u3 43, u3 44, u3 45, u3 46, u3 47, u3 48, u3 49, u3 50, u3 51, u3 52, u3 53, u3 54, u3 55, u3 56, u3 57, u3 58, u3 59, u3 60, u3 61, u3 62, u3 63, u3 64, u3 65, u3 66, u3 67, u3 68, u3 69, u3 70, u3 71, u3 72, u3 73, u3 74, u3 75, u3 76, u3 77, u3 78, u3 79, u3 80, u3 81, u3 82, u3 83, u3 84, u3 85, u3 86, u3 87, u3 88, u3 89, u3 90, u3 91, u3 92, u3 93, u3 94, u3 95, u3 96, u3 97, u3 98, u3 99, u3 100, u3 101, u3 102, u3 103, u3 104, u3 105, u3 106, u3 107, u3 108, u3 109, u3 110, u3 111, u3 112, u3 113, u3 114, u3 115, u3 116, u3 117, u3 118, u3 119, u3 120, u3 121, u3 122, u3 123, u3 124, u3 125, u3 126, u3 127, u3 128, u3 129, u3 130, u3 131, u3 132, u3 133, u3 134, u3 135, u3 136, u3 137, u3 138, u3 139, u3 140, u3 141, u3 142, u3 143, u3 144, u3 145, u3 146, u3 147, u3 148, u3 149, u3 150, u3 151, u3 152, u3 153, u3 154, u3 155, u3 156, u3 157, u3 158, u3 159, u3 160, u3 161, u3 162, u3 163, u3 164, u3 165, u3 166], defers := [] } ∧ True)
      ?hA2 ?assign2 ?body2 ?done2 ?stop2
    case hA2 =>
      rintro t2 a2 W2 l2 q q' ⟨Bx2, b20, e20, h1, h2⟩ h3
      exact ⟨Bx2, b20, e20, (World.putObj_heap_other (by intro e; rw [e, h3] at h1; cases h1)).trans h1, h2⟩
    case assign2 =>
      rintro m2 l2 t2 W2 K2 hz2 hK2
      have HK2 := hid hK2
      clear hK2
      simp only [dv]
      gi_wp2
      refine HK2.out _ _ ?_ (belowA W2 _)
      exact ⟨W2.heap.size, _, rfl, World.alloc_heap_new W2 _, ex_u rfl trivial⟩
    case body2 =>
      rintro m2 l2 pre2 t2 a2 W02 W2 ⟨Bx2, b20, e20, hbx2, u3, rfl, -⟩ hl2 hlr2 hrec2 hlk2 ⟨hi2, hk2⟩ hpre2
      have I := hi2.reco hlk2 hl2 hlr2
      have hj2 := HAT2.out pre2 t2 hpre2
      have hlow2 : Below W'.heap.size W' W2 := I.lk.below HB45.out (Nat.le_refl _) (by omega)
      have S := HS.out.low (HLW.out.trans (hlow2.mono HLW.out.size))
      have hz2 := I.lk.size
      obtain ⟨wb, wo, wc, ew, hwb, p0, p1, p2, p3, p4⟩ := HIT2.out W2 pre2 t2 S.lst hpre2
      have ⟨q0, q1, q2, q3, q4⟩ := tcells hbx2
      have lB := lt_blk hbx2
      rw [← e20] at I
      have c20 := I.num.cell
      have f20 := I.num.frozen
      have c15 := (boxed_low HI.out.num hlow2).cell
      have c7 := S.want.cell
      rw [ew] at c7
      have hlenp2 : ((pre2 ++ [t2]).length : Int) = (pre2.length : Int) + 1 := by simp
      have hlenq2 : (pre2 ++ [t2]).length = pre2.length + 1 := by simp
      rw [hlenp2, hlenq2]
      have HI2 := hid I
      have HE20 := hid e20
      have l20 := I.num.lt
      clear hlr2 hlk2 hi2 I S hrec2 hpre2 hbx2 hlow2
      obtain ⟨yk, yo, yn, yh, ys⟩ := t2
      simp only at p0 p1 p2 p3 p4 q0 q1 q2 q3 q4
      generalize pre2.length = j at *
      have g1 : (j : Int) < N := by omega
      have g2 : (0 : Int) ≤ (j : Int) := by omega
      have n7 : (b7 = b20) = False := by simp; omega
      have n15 : (b15 = b20) = False := by simp; omega
      clear e20
      have d1 : decide ((N : Int) ≤ (j : Int)) = false := by simp; omega
      have d2 : decide (N ≤ j) = false := by simp; omega
      have d3 : (N ≤ j) = False := by simp; omega
      gi_wp2
      refine quiet_round (F := Fence.wide) rfl (by kernel_rfl) (by kernel_rfl) (by kernel_rfl) ?_
      repeat (gi_big_quiet_step (fail))
      refine wpQuietIn_nil ?_
      rintro _ ⟨nq2, rfl⟩
      clear d1 d2 d3
      rename_i hK39
      refine hK39 _ _ ?_
      clear hK39
      gi_wp2
      all_goals
        have ID := HI2.out.drew nq2
        have I3 := ID.set ((j : Int) + 1)
        have KB := kb_draw (W := W2) (q := nq2) (b := b20) (base := W'.heap.size + 1) (B := B) (n0 := n0) (.int .i64 ((j : Int) + 1)) (by have := HE20.out; omega) (by have := HE20.out; omega)
        have KB2 : Kb (W'.heap.size + 1) W2 (W2.drewN nq2) ∧ Mid B n0 W2 (W2.drewN nq2) := ⟨⟨Nat.le_refl _, fun _ _ _ h _ => h⟩, ⟨Nat.le_refl _, fun _ _ _ => rfl⟩⟩
        have I3' : Ik W5 W'.heap.size ((j : Int) + 1) ((W2.drewN nq2).setCell ⟨b20, 0, none⟩ (.int .i64 ((j : Int) + 1))) := by rw [← HE20.out]; exact I3
        have ID' : Ik W5 W'.heap.size (j : Int) (W2.drewN nq2) := by rw [← HE20.out]; exact ID
        first
          | exact ⟨KB2.1, KB2.2, ID'.lk⟩
          | (refine ⟨KB.1, KB.2, I3', ?_⟩; rename_i hjk; simp at hjk; omega)
    case done2 =>
      rintro W2 ⟨_, hk2⟩
      rw [HND.out] at hk2
      omega
    case stop2 =>
      intro W2 hx
      have hlow2 : Below W'.heap.size W' W2 := hx.below HB45.out (Nat.le_refl _) (by omega)
      have S := HS.out.low (HLW.out.trans (hlow2.mono HLW.out.size))
      obtain ⟨wb, wo, wc, ew, hwb, p0, p1, p2, p3, p4⟩ := HIT.out W2 S.lst
      have hbx2 := (hlow2.block Bx (lt_blk HBX.out)).trans HBX.out
      have ⟨q0, q1, q2, q3, q4⟩ := tcells hbx2
      have lB := lt_blk hbx2
      have c15 := (boxed_low HI.out.num hlow2).cell
      have f15 := (boxed_low HI.out.num hlow2).frozen
      have c7 := S.want.cell
      rw [ew] at c7
      have HL2 := hid hlow2
      clear S hbx2 hlow2 hx
      obtain ⟨yk, yo, yn, yh, ys⟩ := t
      simp only at p0 p1 p2 p3 p4 q0 q1 q2 q3 q4
      have g1 : (k : Int) < N := by omega
      have g2 : (0 : Int) ≤ (k : Int) := by omega
      have n7 : (b7 = b15) = False := by simp; omega
      have d1 : decide ((N : Int) ≤ (k : Int)) = false := by simp; omega
      have d2 : decide (N ≤ k) = false := by simp; omega
      have d3 : (N ≤ k) = False := by simp; omega
      gi_wp2
      refine quiet_round (F := Fence.wide) rfl (by kernel_rfl) (by kernel_rfl) (by kernel_rfl) ?_
      repeat (gi_big_quiet_step (fail))
      refine wpQuietIn_nil ?_
      rintro _ ⟨nq2, rfl⟩
      clear d1 d2 d3
      rename_i hK39
      refine hK39 _ _ ?_
      clear hK39
      gi_wp2
      all_goals
        have bd := below_drewN HL2.out nq2
        have KB := kb_seg (W' := W') (W4 := W') (W2 := W2.drewN nq2) (b := b15) (base := W.heap.size) (B := B) (n0 := n0) (.int .i64 ((k : Int) + 1)) (Below.refl _ _) bd hlt15 (by omega) (by omega)
        exact ⟨KB.1, KB.2, (HI.out.low bd).set ((k : Int) + 1)⟩
  case done =>
    intro D W' hD hi hdf
    have HI := hid hi
    have HDf := hid hdf
    clear hi hdf
    gi_wp2
    exact NX.out _ D W' (ex_u rfl trivial) HI.out hD HDf.out
  case stop => exact fun D W' hD h => h.elim
end Go.Proofs.YtodamoblnlcodaaDoor.L
