import Derived.Test.YtcldglilhhhdoaaGreatDoorPfL
namespace Go.Proofs.YtcldglilhhhdoaaGreatDoor.L
open Go.RowKit
set_option linter.unusedVariables false
set_option linter.unusedSimpArgs false
/-- The number of a comparison's mark. -/
def relN (t : Tok) : Int := if t.kind = 4 then cmpO t.text.toList else 0
theorem relN_ge (t : Tok) : 0 ≤ relN t := by
 unfold relN cmpO
 repeat' split
 all_goals decide
theorem pst_eq {mb B : Nat} {tv : Value} {T : List Tok} {ws : List Wn} {fl : Array Value} {r r' : MR} {W' : World} (e : r = r') (h : Pst mb B tv T ws fl r' W') : Pst mb B tv T ws fl r W' := by rw [e]; exact h
theorem info6 : (Tryz.prog.info? 74).map (·.size) = some 6 := by kernel_rfl
set_option maxHeartbeats 16000000 in
set_option maxRecDepth 100000 in
theorem relation_any (t : Tok) (W : World) : Calls Tryz.prog 64 #[.agg #[.int .i64 (t.kind : Int), .string t.text, .int .i64 t.num, .int .i64 (t.a : Int), .int .i64 (t.e : Int)]] W fun e W' => e = .returned (.int .i64 (relN t)) ∧ Below W.heap.size W W' := by
 unfold relN
 by_cases hk : t.kind = 4
 ·rw [if_pos hk]
  have e0 : ((t.kind : Int) != 4) = false := by simp [hk]
  clear hk
  unfold cmpO
  by_cases hx : t.text.toList = [61, 61]
  ·rw [if_pos hx]
   have t0 := beq_t hx
   clear hx
   go_enter Tryz.func64, Tryz.ntmps64
   go_upto_region 1 with fail
   have HB0 := hid (belowA W (.cells #[.int .i64 (t.kind : Int), .string t.text, .int .i64 t.num, .int .i64 (t.a : Int), .int .i64 (t.e : Int)] 53))
   have ⟨x0, x1, x2, x3, x4⟩ := tk5 (heap_alloc_new W (.cells #[.int .i64 (t.kind : Int), .string t.text, .int .i64 t.num, .int .i64 (t.a : Int), .int .i64 (t.e : Int)] 53))
   generalize W.alloc (.cells #[.int .i64 (t.kind : Int), .string t.text, .int .i64 t.num, .int .i64 (t.a : Int), .int .i64 (t.e : Int)] 53) = X at *
   go_wp2_with fail
   go_ret
   exact ⟨rfl, HB0.out⟩
  ·rw [if_neg hx]
   have t0 := beq_f hx
   clear hx
   by_cases hx : t.text.toList = [33, 61]
   ·rw [if_pos hx]
    have t1 := beq_t hx
    clear hx
    go_enter Tryz.func64, Tryz.ntmps64
    go_upto_region 1 with fail
    have HB0 := hid (belowA W (.cells #[.int .i64 (t.kind : Int), .string t.text, .int .i64 t.num, .int .i64 (t.a : Int), .int .i64 (t.e : Int)] 53))
    have ⟨x0, x1, x2, x3, x4⟩ := tk5 (heap_alloc_new W (.cells #[.int .i64 (t.kind : Int), .string t.text, .int .i64 t.num, .int .i64 (t.a : Int), .int .i64 (t.e : Int)] 53))
    generalize W.alloc (.cells #[.int .i64 (t.kind : Int), .string t.text, .int .i64 t.num, .int .i64 (t.a : Int), .int .i64 (t.e : Int)] 53) = X at *
    go_wp2_with fail
    go_ret
    exact ⟨rfl, HB0.out⟩
   ·rw [if_neg hx]
    have t1 := beq_f hx
    clear hx
    by_cases hx : t.text.toList = [60]
    ·rw [if_pos hx]
     have t2 := beq_t hx
     clear hx
     go_enter Tryz.func64, Tryz.ntmps64
     go_upto_region 1 with fail
     have HB0 := hid (belowA W (.cells #[.int .i64 (t.kind : Int), .string t.text, .int .i64 t.num, .int .i64 (t.a : Int), .int .i64 (t.e : Int)] 53))
     have ⟨x0, x1, x2, x3, x4⟩ := tk5 (heap_alloc_new W (.cells #[.int .i64 (t.kind : Int), .string t.text, .int .i64 t.num, .int .i64 (t.a : Int), .int .i64 (t.e : Int)] 53))
     generalize W.alloc (.cells #[.int .i64 (t.kind : Int), .string t.text, .int .i64 t.num, .int .i64 (t.a : Int), .int .i64 (t.e : Int)] 53) = X at *
     go_wp2_with fail
     go_ret
     exact ⟨rfl, HB0.out⟩
    ·rw [if_neg hx]
     have t2 := beq_f hx
     clear hx
     by_cases hx : t.text.toList = [60, 61]
     ·rw [if_pos hx]
      have t3 := beq_t hx
      clear hx
      go_enter Tryz.func64, Tryz.ntmps64
      go_upto_region 1 with fail
      have HB0 := hid (belowA W (.cells #[.int .i64 (t.kind : Int), .string t.text, .int .i64 t.num, .int .i64 (t.a : Int), .int .i64 (t.e : Int)] 53))
      have ⟨x0, x1, x2, x3, x4⟩ := tk5 (heap_alloc_new W (.cells #[.int .i64 (t.kind : Int), .string t.text, .int .i64 t.num, .int .i64 (t.a : Int), .int .i64 (t.e : Int)] 53))
      generalize W.alloc (.cells #[.int .i64 (t.kind : Int), .string t.text, .int .i64 t.num, .int .i64 (t.a : Int), .int .i64 (t.e : Int)] 53) = X at *
      go_wp2_with fail
      go_ret
      exact ⟨rfl, HB0.out⟩
     ·rw [if_neg hx]
      have t3 := beq_f hx
      clear hx
      by_cases hx : t.text.toList = [62]
      ·rw [if_pos hx]
       have t4 := beq_t hx
       clear hx
       go_enter Tryz.func64, Tryz.ntmps64
       go_upto_region 1 with fail
       have HB0 := hid (belowA W (.cells #[.int .i64 (t.kind : Int), .string t.text, .int .i64 t.num, .int .i64 (t.a : Int), .int .i64 (t.e : Int)] 53))
       have ⟨x0, x1, x2, x3, x4⟩ := tk5 (heap_alloc_new W (.cells #[.int .i64 (t.kind : Int), .string t.text, .int .i64 t.num, .int .i64 (t.a : Int), .int .i64 (t.e : Int)] 53))
       generalize W.alloc (.cells #[.int .i64 (t.kind : Int), .string t.text, .int .i64 t.num, .int .i64 (t.a : Int), .int .i64 (t.e : Int)] 53) = X at *
       go_wp2_with fail
       go_ret
       exact ⟨rfl, HB0.out⟩
      ·rw [if_neg hx]
       have t4 := beq_f hx
       clear hx
       by_cases hx : t.text.toList = [62, 61]
       ·rw [if_pos hx]
        have t5 := beq_t hx
        clear hx
        go_enter Tryz.func64, Tryz.ntmps64
        go_upto_region 1 with fail
        have HB0 := hid (belowA W (.cells #[.int .i64 (t.kind : Int), .string t.text, .int .i64 t.num, .int .i64 (t.a : Int), .int .i64 (t.e : Int)] 53))
        have ⟨x0, x1, x2, x3, x4⟩ := tk5 (heap_alloc_new W (.cells #[.int .i64 (t.kind : Int), .string t.text, .int .i64 t.num, .int .i64 (t.a : Int), .int .i64 (t.e : Int)] 53))
        generalize W.alloc (.cells #[.int .i64 (t.kind : Int), .string t.text, .int .i64 t.num, .int .i64 (t.a : Int), .int .i64 (t.e : Int)] 53) = X at *
        go_wp2_with fail
        go_ret
        exact ⟨rfl, HB0.out⟩
       ·rw [if_neg hx]
        have t5 := beq_f hx
        clear hx
        go_enter Tryz.func64, Tryz.ntmps64
        go_upto_region 1 with fail
        have HB0 := hid (belowA W (.cells #[.int .i64 (t.kind : Int), .string t.text, .int .i64 t.num, .int .i64 (t.a : Int), .int .i64 (t.e : Int)] 53))
        have ⟨x0, x1, x2, x3, x4⟩ := tk5 (heap_alloc_new W (.cells #[.int .i64 (t.kind : Int), .string t.text, .int .i64 t.num, .int .i64 (t.a : Int), .int .i64 (t.e : Int)] 53))
        generalize W.alloc (.cells #[.int .i64 (t.kind : Int), .string t.text, .int .i64 t.num, .int .i64 (t.a : Int), .int .i64 (t.e : Int)] 53) = X at *
        go_wp2_with fail
        go_ret
        exact ⟨rfl, HB0.out⟩
 ·rw [if_neg hk]
  have e0 : ((t.kind : Int) != 4) = true := by simp; omega
  clear hk
  go_enter Tryz.func64, Tryz.ntmps64
  go_upto_region 1 with fail
  have HB0 := hid (belowA W (.cells #[.int .i64 (t.kind : Int), .string t.text, .int .i64 t.num, .int .i64 (t.a : Int), .int .i64 (t.e : Int)] 53))
  have ⟨x0, x1, x2, x3, x4⟩ := tk5 (heap_alloc_new W (.cells #[.int .i64 (t.kind : Int), .string t.text, .int .i64 t.num, .int .i64 (t.a : Int), .int .i64 (t.e : Int)] 53))
  generalize W.alloc (.cells #[.int .i64 (t.kind : Int), .string t.text, .int .i64 t.num, .int .i64 (t.a : Int), .int .i64 (t.e : Int)] 53) = X at *
  go_wp2_with fail
  go_ret
  exact ⟨rfl, HB0.out⟩
set_option maxHeartbeats 16000000 in
set_option maxRecDepth 100000 in
theorem mrel_any {mb B : Nat} {tv : Value} {T : List Tok} {W : World} {s : PS} {ws : List Wn} {fr : List Int} {fl : Array Value} {wv v o f : Value} {ks : Nat → Value} (h : MM mb B tv T W s ws fr fl wv v o f ks) (base : Nat) (hl : ws.length ≤ 900) : Calls Tryz.prog 42 #[.pointer (some ⟨mb, 0, none⟩), .int .i64 (base : Int)] W fun e W' => e = .returned (.tuple #[]) ∧ Pst mb B tv T ws fl (relM T base s fr) W' ∧ Fmm B W W' := by
 obtain ⟨g, cap, rfl, hgl, hc⟩ := h.tokc
 have hnx := h.nx
 have htl := h.tl
 have HP := hid h
 have HC := hid (fun r (hr : r < 5) => hc s.nx r hnx hr)
 have HGL := hid hgl
 have HC0 := hid (h.cell 0 (by decide))
 have HC1 := hid (h.cell 1 (by decide))
 have HML := hid (lt_blk h.box)
 clear hc h hgl
 obtain ⟨t, ht⟩ : ∃ t, t = tk T s.nx := ⟨_, rfl⟩
 have HT := hid ht
 rw [← ht] at HC
 obtain ⟨L, hL⟩ : ∃ L, L = T.length := ⟨_, rfl⟩
 have HLT := hid hL
 rw [← hL] at HC0 hnx htl
 obtain ⟨n, hn⟩ : ∃ n, n = s.nx := ⟨_, rfl⟩
 have HN := hid hn
 rw [← hn] at HC HC1 hnx
 clear hL hn
 have g1 : (n : Int) < (L : Int) := by omega
 have g0 : (0 : Int) ≤ (n : Int) := by omega
 have MS := hid (show ∀ Y, Below W.heap.size W Y → (fun Y => (Y.cell? ⟨mb, 0, none⟩ = some (.slice (some ⟨g, 0, none⟩) L cap) ∧ Y.cell? ⟨mb, 1, none⟩ = some (.int .i64 (n : Int))) ∧ Y.cell? ⟨g, n * 5, none⟩ = some (.int .i64 (t.kind : Int)) ∧ Y.cell? ⟨g, n * 5 + 1, none⟩ = some (.string t.text) ∧ Y.cell? ⟨g, n * 5 + 2, none⟩ = some (.int .i64 t.num) ∧ Y.cell? ⟨g, n * 5 + 3, none⟩ = some (.int .i64 (t.a : Int)) ∧ Y.cell? ⟨g, n * 5 + 4, none⟩ = some (.int .i64 (t.e : Int))) Y from fun Y hb => ⟨⟨(hb.cell (p := ⟨mb, 0, none⟩) HML.out).trans HC0.out, (hb.cell (p := ⟨mb, 1, none⟩) HML.out).trans HC1.out⟩, (hb.cell (p := ⟨g, n * 5, none⟩) HGL.out).trans (HC.out 0 (by decide)), (hb.cell (p := ⟨g, n * 5 + 1, none⟩) HGL.out).trans (HC.out 1 (by decide)), (hb.cell (p := ⟨g, n * 5 + 2, none⟩) HGL.out).trans (HC.out 2 (by decide)), (hb.cell (p := ⟨g, n * 5 + 3, none⟩) HGL.out).trans (HC.out 3 (by decide)), (hb.cell (p := ⟨g, n * 5 + 4, none⟩) HGL.out).trans (HC.out 4 (by decide))⟩)
 clear ht
 obtain ⟨r, hr⟩ : ∃ r, r = relN t := ⟨_, rfl⟩
 have HRN := hid hr.symm
 have hg0 := relN_ge t
 rw [← hr] at hg0
 have HRR := hid hr
 clear hr
 go_enter Tryz.func42, Tryz.ntmps42
 go_upto_region 0 with fail
 have HD := hid (show Below W.heap.size W W.drew from (Below.refl _ W).drew)
 refine wp_region_held_drew (S := (fun Y => (Y.cell? ⟨mb, 0, none⟩ = some (.slice (some ⟨g, 0, none⟩) L cap) ∧ Y.cell? ⟨mb, 1, none⟩ = some (.int .i64 (n : Int))) ∧ Y.cell? ⟨g, n * 5, none⟩ = some (.int .i64 (t.kind : Int)) ∧ Y.cell? ⟨g, n * 5 + 1, none⟩ = some (.string t.text) ∧ Y.cell? ⟨g, n * 5 + 2, none⟩ = some (.int .i64 t.num) ∧ Y.cell? ⟨g, n * 5 + 3, none⟩ = some (.int .i64 (t.a : Int)) ∧ Y.cell? ⟨g, n * 5 + 4, none⟩ = some (.int .i64 (t.e : Int)))) (by kernel_rfl) ?_ (fun hHeld => ?_)
 ·exact MS.out _ HD.out
 generalize W.drew = Z at *
 refine wpAnyH_take (i := 0) (v := ?_) rfl (by kernel_rfl) (by kernel_rfl) (by kernel_rfl) (fun _ _ _ h => h) (Or.inl ⟨by rfl, ?_⟩) (by assumption) ?_
 rotate_left
 ·(intro w hSw; (try dsimp only at hSw); go_simp; try with_reducible rfl)
 try simp only [Act.put, List.setIfInBounds_toArray, List.set_cons_zero, List.set_cons_succ]
 refine wpAnyH_take (i := 1) (v := ?_) rfl (by kernel_rfl) (by kernel_rfl) (by kernel_rfl) (fun _ _ _ h => h) (Or.inl ⟨by rfl, ?_⟩) (by assumption) ?_
 rotate_left
 ·(intro w hSw; (try dsimp only at hSw); go_simp; try with_reducible rfl)
 try simp only [Act.put, List.setIfInBounds_toArray, List.set_cons_zero, List.set_cons_succ]
 refine wpAnyH_take (i := 2) (v := ?_) rfl (by kernel_rfl) (by kernel_rfl) (by kernel_rfl) (fun _ _ _ h => h) (Or.inl ⟨by rfl, ?_⟩) (by assumption) ?_
 rotate_left
 ·(intro w hSw; (try dsimp only at hSw); go_simp; try with_reducible rfl)
 try simp only [Act.put, List.setIfInBounds_toArray, List.set_cons_zero, List.set_cons_succ]
 refine wpAnyH_take (i := 3) (v := ?_) rfl (by kernel_rfl) (by kernel_rfl) (by kernel_rfl) (fun _ _ _ h => h) (Or.inl ⟨by rfl, ?_⟩) (by assumption) ?_
 rotate_left
 ·(intro w hSw; (try dsimp only at hSw); go_simp; try with_reducible rfl)
 try simp only [Act.put, List.setIfInBounds_toArray, List.set_cons_zero, List.set_cons_succ]
 refine wpAnyH_take (i := 4) (v := ?_) rfl (by kernel_rfl) (by kernel_rfl) (by kernel_rfl) (fun _ _ _ h => h) (Or.inl ⟨by rfl, ?_⟩) (by assumption) ?_
 rotate_left
 ·(intro w hSw; (try dsimp only at hSw); go_simp; try with_reducible rfl)
 try simp only [Act.put, List.setIfInBounds_toArray, List.set_cons_zero, List.set_cons_succ]
 refine wpAnyH_take (i := 5) (v := ?_) rfl (by kernel_rfl) (by kernel_rfl) (by kernel_rfl) (fun _ _ _ h => h) (Or.inl ⟨by rfl, ?_⟩) (by assumption) ?_
 rotate_left
 ·(intro w hSw; (try dsimp only at hSw); go_simp; try with_reducible rfl)
 try simp only [Act.put, List.setIfInBounds_toArray, List.set_cons_zero, List.set_cons_succ]
 refine wpAnyH_take (i := 6) (v := ?_) rfl (by kernel_rfl) (by kernel_rfl) (by kernel_rfl) (fun _ _ _ h => h) (Or.inl ⟨by rfl, ?_⟩) (by assumption) ?_
 rotate_left
 ·(intro w hSw; (try dsimp only at hSw); go_simp; try with_reducible rfl)
 try simp only [Act.put, List.setIfInBounds_toArray, List.set_cons_zero, List.set_cons_succ]
 refine wpAnyH_take (i := 7) (v := ?_) rfl (by kernel_rfl) (by kernel_rfl) (by kernel_rfl) (fun _ _ _ h => h) (Or.inl ⟨by rfl, ?_⟩) (by assumption) ?_
 rotate_left
 ·(intro w hSw; (try dsimp only at hSw); go_simp; try with_reducible rfl)
 try simp only [Act.put, List.setIfInBounds_toArray, List.set_cons_zero, List.set_cons_succ]
 refine wpAnyH_take (i := 8) (v := ?_) rfl (by kernel_rfl) (by kernel_rfl) (by kernel_rfl) (fun _ _ _ h => h) (Or.inl ⟨by rfl, ?_⟩) (by assumption) ?_
 rotate_left
 ·(intro w hSw; (try dsimp only at hSw); go_simp; try with_reducible rfl)
 try simp only [Act.put, List.setIfInBounds_toArray, List.set_cons_zero, List.set_cons_succ]
 refine wpAnyH_take (i := 9) (v := ?_) rfl (by kernel_rfl) (by kernel_rfl) (by kernel_rfl) (fun _ _ _ h => h) (Or.inl ⟨by rfl, ?_⟩) (by assumption) ?_
 rotate_left
 ·(intro w hSw; (try dsimp only at hSw); go_simp; try with_reducible rfl)
 try simp only [Act.put, List.setIfInBounds_toArray, List.set_cons_zero, List.set_cons_succ]
 refine wpAnyH_ready (rs := [10]) (by kernel_rfl) (by simp) ?_
 refine AllReadyH.cons rfl (fun K hK => ?_) AllReadyH.nil
 go_simp
 refine hK.out _ _ ?_ (fun hHeld => ?_)
 ·exact MS.out _ (HD.out.trans ((belowA Z (.cells #[.int .i64 0, .string ⟨#[]⟩, .int .i64 0, .int .i64 0, .int .i64 0] 53)).mono HD.out.size))
 clear hK K
 try simp only [Act.put, List.setIfInBounds_toArray, List.set_cons_zero, List.set_cons_succ]
 have HXN := hid (heap_alloc_new Z (.cells #[.int .i64 0, .string ⟨#[]⟩, .int .i64 0, .int .i64 0, .int .i64 0] 53))
 have HBN := hid (HD.out.trans ((belowA Z (.cells #[.int .i64 0, .string ⟨#[]⟩, .int .i64 0, .int .i64 0, .int .i64 0] 53)).mono HD.out.size))
 have HGE := hid HD.out.size
 generalize Z.alloc (.cells #[.int .i64 0, .string ⟨#[]⟩, .int .i64 0, .int .i64 0, .int .i64 0] 53) = X at *
 clear HD
 generalize Z.heap.size = b at *
 refine wpAnyH_ready (rs := [11]) (by kernel_rfl) (by simp) ?_
 refine AllReadyH.cons rfl (fun K hK => ?_) AllReadyH.nil
 rw [if_pos (by rfl)]
 refine wp_store_row 53 _ _ rfl b #[.int .i64 (t.kind : Int), .string t.text, .int .i64 t.num, .int .i64 (t.a : Int), .int .i64 (t.e : Int)] rfl rfl 53 _ HXN.out infoTk rfl (by kernel_rfl) ?_
 refine hK.out _ _ ?_ (fun hHeld => ?_)
 ·exact MS.out _ (below_row HBN.out _ _ HGE.out)
 clear hK K hHeld
 try simp only [Act.put, List.setIfInBounds_toArray, List.set_cons_zero, List.set_cons_succ]
 refine wpAnyH_done (by kernel_rfl) ?_ _
 have HV := hid (setRow_heap X _ _ #[.int .i64 (t.kind : Int), .string t.text, .int .i64 t.num, .int .i64 (t.a : Int), .int .i64 (t.e : Int)] _ _ HXN.out)
 have HBV := hid (below_row HBN.out b #[.int .i64 (t.kind : Int), .string t.text, .int .i64 t.num, .int .i64 (t.a : Int), .int .i64 (t.e : Int)] HGE.out)
 generalize X.setRow b #[.int .i64 (t.kind : Int), .string t.text, .int .i64 t.num, .int .i64 (t.a : Int), .int .i64 (t.e : Int)] = V at *
 clear HXN HBN MS
 have ⟨x0, x1, x2, x3, x4⟩ := tk5 HV.out
 have HP0 := hid (HP.out.low HBV.out)
 have HF0 := hid (Fmm.of HBV.out HP.out.size)
 go_wp2_with fail
 refine (relation_any t V).mono ?_
 rintro e V2 ⟨rfl, l⟩
 have HP1 := hid (HP0.out.low l)
 have HF1 := hid (HF0.out.trans (Fmm.of l HP0.out.size))
 have HV2 := hid ((l.block _ (lt_blk HV.out)).trans HV.out)
 rw [HRN.out]
 clear l x0 x1 x2 x3 x4
 have ⟨x0, x1, x2, x3, x4⟩ := tk5 HV2.out
 go_upto_region 2 with fail
 refine wp_region_lit ?_
 refine wpList_plain rfl fun K hK => ?_
 have HK := hid hK
 clear hK
 go_simp
 refine HK.out _ _ ?_
 clear HK
 try simp only [Act.put, List.setIfInBounds_toArray, List.set_cons_zero, List.set_cons_succ]
 refine wpList_plain rfl fun K hK => ?_
 have HK := hid hK
 clear hK
 go_simp
 refine HK.out _ _ ?_
 clear HK
 try simp only [Act.put, List.setIfInBounds_toArray, List.set_cons_zero, List.set_cons_succ]
 refine wpList_plain rfl fun K hK => ?_
 have HK := hid hK
 clear hK
 go_simp
 refine HK.out _ _ ?_
 clear HK
 try simp only [Act.put, List.setIfInBounds_toArray, List.set_cons_zero, List.set_cons_succ]
 refine wpList_plain rfl fun K hK => ?_
 have HK := hid hK
 clear hK
 go_simp
 refine HK.out _ _ ?_
 clear HK
 try simp only [Act.put, List.setIfInBounds_toArray, List.set_cons_zero, List.set_cons_succ]
 refine wpList_plain rfl fun K hK => ?_
 have HK := hid hK
 clear hK
 go_simp
 refine HK.out _ _ ?_
 clear HK
 try simp only [Act.put, List.setIfInBounds_toArray, List.set_cons_zero, List.set_cons_succ]
 have HXN := hid (heap_alloc_new V2 (.cells #[.int .i64 0, .int .i64 0, .int .i64 0, .string ⟨#[]⟩, .int .i64 0, .int .i64 0] 74))
 have HBN := hid (belowA V2 (.cells #[.int .i64 0, .int .i64 0, .int .i64 0, .string ⟨#[]⟩, .int .i64 0, .int .i64 0] 74))
 refine wpList_store_row rfl 74 _ _ rfl V2.heap.size #[.int .i64 11, .int .i64 0, .int .i64 (t.a : Int), .string ⟨#[]⟩, .int .i64 0, .int .i64 (base : Int)] rfl rfl 74 _ HXN.out info6 rfl (by kernel_rfl) ?_
 try simp only [Act.put, List.setIfInBounds_toArray, List.set_cons_zero, List.set_cons_succ]
 have HXB := hid (setRow_heap _ _ _ #[.int .i64 11, .int .i64 0, .int .i64 (t.a : Int), .string ⟨#[]⟩, .int .i64 0, .int .i64 (base : Int)] _ _ HXN.out)
 have HB3 := hid (below_row HBN.out V2.heap.size #[.int .i64 11, .int .i64 0, .int .i64 (t.a : Int), .string ⟨#[]⟩, .int .i64 0, .int .i64 (base : Int)] (Nat.le_refl _))
 have HP3 := hid (HP1.out.low HB3.out)
 have HF3 := hid (HF1.out.trans (Fmm.of HB3.out HP1.out.size))
 have HBB := hid HP1.out.size
 have HWB := hid (show wv.ownBlock ≠ some V2.heap.size from fun e => (by have := (row_at HP1.out.wants e).2.1; omega))
 have HNE := hid (show V2.heap.size ≠ mb from fun e => (by have := lt_blk HP1.out.box; omega))
 generalize (V2.alloc (.cells #[.int .i64 0, .int .i64 0, .int .i64 0, .string ⟨#[]⟩, .int .i64 0, .int .i64 0] 74)).setRow V2.heap.size #[.int .i64 11, .int .i64 0, .int .i64 (t.a : Int), .string ⟨#[]⟩, .int .i64 0, .int .i64 (base : Int)] = X at *
 generalize V2.heap.size = bp at *
 clear x0 x1 x2 x3 x4 HXN HBN HB3
 go_wp2_with fail
 refine (mword_any HP3.out ⟨#[105, 110]⟩).mono ?_
 rintro e Y4 ⟨rfl, l⟩
 have HM4 := hid (HP3.out.low l)
 have HG4 := hid (HF3.out.trans (Fmm.of l HP3.out.size))
 have HL4 := hid l
 clear l
 obtain ⟨w0, hw0⟩ : ∃ b : Bool, b = (decide ((tk T s.nx).kind = 3) && decide ((tk T s.nx).text.toList = (⟨#[105, 110]⟩ : ByteArray).toList)) := ⟨_, rfl⟩
 rw [← hw0]
 have HVw0 := hid hw0
 clear hw0
 go_wp2_with fail
 refine (mword_any HM4.out ⟨#[110, 111, 116, 105, 110]⟩).mono ?_
 rintro e Y5 ⟨rfl, l⟩
 have HM5 := hid (HM4.out.low l)
 have HG5 := hid (HG4.out.trans (Fmm.of l HM4.out.size))
 have HL5 := hid l
 clear l
 obtain ⟨w1, hw1⟩ : ∃ b : Bool, b = (decide ((tk T s.nx).kind = 3) && decide ((tk T s.nx).text.toList = (⟨#[110, 111, 116, 105, 110]⟩ : ByteArray).toList)) := ⟨_, rfl⟩
 rw [← hw1]
 have HVw1 := hid hw1
 clear hw1
 have HX5 := hid ((HL5.out.block _ (Nat.lt_of_lt_of_le (lt_blk HXB.out) HL4.out.size)).trans ((HL4.out.block _ (lt_blk HXB.out)).trans HXB.out))
 have ⟨y0, y1, y2, y3, y4, y5⟩ := bx6 HX5.out
 have g1w := frz_row HX5.out 1
 have g4w := frz_row HX5.out 4
 have hr := HRR.out
 by_cases hr0 : 0 < r
 ·have hk : t.kind = 4 := by (by_cases h4 : t.kind = 4); (exact h4); (exfalso; unfold relN at hr; rw [if_neg h4] at hr; omega)
  have HBE := hid (show betO t = some (6, r) by rw [hr]; unfold relN at hr ⊢; rw [if_pos hk] at hr ⊢; unfold betO; rw [if_pos hk, if_neg (by omega)])
  have HEQ := hid (show relM T base s fr = .ok (([awt 6, ⟨11, 6, (t.a : Int), ⟨#[]⟩, r, base⟩], fr), Go.Proofs.YtcldglilhhhdoaaGreatDoor.L.adv s) by unfold relM; rw [← HT.out, HBE.out])
  have HKD := hid (show (tk T s.nx).kind ≠ 0 by rw [← HT.out]; omega)
  have HW0 := hid (show (decide ((tk T s.nx).kind = 3) && decide ((tk T s.nx).text.toList = (⟨#[105, 110]⟩ : ByteArray).toList)) = false by rw [show (⟨#[105, 110]⟩ : ByteArray).toList = [105, 110] from ByteArray.toList_eq _]; rw [← HT.out]; simp [hk])
  have HW1 := hid (show (decide ((tk T s.nx).kind = 3) && decide ((tk T s.nx).text.toList = (⟨#[110, 111, 116, 105, 110]⟩ : ByteArray).toList)) = false by rw [show (⟨#[110, 111, 116, 105, 110]⟩ : ByteArray).toList = [110, 111, 116, 105, 110] from ByteArray.toList_eq _]; rw [← HT.out]; simp [hk])
  rw [HW0.out] at HVw0
  rw [HW1.out] at HVw1
  obtain rfl := HVw0.out
  obtain rfl := HVw1.out
  have d1 : decide (0 < r) = true := by simp [hr0]
  clear hr hk hr0
  go_upto_region 8 with (fail)
  have HX6 := hid (show (Y5.setCell ⟨bp, 1, none⟩ (.int .i64 6)).heap[bp]? = some (.cells #[.int .i64 11, .int .i64 6, .int .i64 (t.a : Int), .string ⟨#[]⟩, .int .i64 0, .int .i64 (base : Int)] 74 (0, 0)) by rw [heap_setCell_same _ _ _ _ _ _ HX5.out]; rfl)
  have HM6 := hid (HM5.out.wbx (i := 1) HX5.out HWB.out (.int .i64 6) HNE.out)
  have HG6 := hid (HG5.out.trans (fmm_wbx (B := B) (i := 1) HX5.out HBB.out (.int .i64 6)))
  generalize Y5.setCell ⟨bp, 1, none⟩ (.int .i64 6) = Y6 at *
  clear y0 y1 y2 y3 y4 y5 g1w g4w
  have ⟨y0, y1, y2, y3, y4, y5⟩ := bx6 HX6.out
  have g1w := frz_row HX6.out 1
  have g4w := frz_row HX6.out 4
  go_upto_region 14 with (fail)
  have HX7 := hid (show (Y6.setCell ⟨bp, 4, none⟩ (.int .i64 r)).heap[bp]? = some (.cells #[.int .i64 11, .int .i64 6, .int .i64 (t.a : Int), .string ⟨#[]⟩, .int .i64 r, .int .i64 (base : Int)] 74 (0, 0)) by rw [heap_setCell_same _ _ _ _ _ _ HX6.out]; rfl)
  have HM7 := hid (HM6.out.wbx (i := 4) HX6.out HWB.out (.int .i64 r) HNE.out)
  have HG7 := hid (HG6.out.trans (fmm_wbx (B := B) (i := 4) HX6.out HBB.out (.int .i64 r)))
  generalize Y6.setCell ⟨bp, 4, none⟩ (.int .i64 r) = Y7 at *
  clear y0 y1 y2 y3 y4 y5 g1w g4w
  have ⟨y0, y1, y2, y3, y4, y5⟩ := bx6 HX7.out
  have g1w := frz_row HX7.out 1
  have g4w := frz_row HX7.out 4
  have hb9 : (s.nx : Int) + 1 ≤ 4098 := by have h8 := HM7.out.nx; have h9 := HM7.out.tl; omega
  have c1 : Y7.cell? ⟨mb, 1, none⟩ = some (.int .i64 (s.nx : Int)) := HM7.out.cell 1 (by decide)
  have f1 := frz_row HM7.out.box 1
  go_upto_region 15 with (fail)
  have HQ := hid (HM7.out.adv HKD.out)
  have HX9 := hid ((set_oth HM7.out.box 1 (.int .i64 ((s.nx : Int) + 1)) HNE.out).trans HX7.out)
  have HM9 := hid HQ.out.1
  have HG9 := hid (HG7.out.trans HQ.out.2)
  generalize Y7.setCell ⟨mb, 1, none⟩ (.int .i64 ((s.nx : Int) + 1)) = Y9 at *
  clear c1 f1 hb9 y0 y1 y2 y3 y4 y5 g1w g4w
  have ⟨y0, y1, y2, y3, y4, y5⟩ := bx6 HX9.out
  go_wp2_with fail
  refine (mpush_any HM9.out ⟨11, 6, (t.a : Int), ⟨#[]⟩, r, base⟩ (by (try simp only [List.length_cons]); omega)).mono ?_
  rintro e Y10 ⟨rfl, ⟨wv10, h8⟩, h9⟩
  have HM10 := hid h8
  have HG10 := hid (HG9.out.trans h9)
  clear h8 h9
  clear y0 y1 y2 y3 y4 y5
  go_wp2_with fail
  refine (mpush_any HM10.out (awt 6) (by (try simp only [List.length_cons]); omega)).mono ?_
  rintro e Y11 ⟨rfl, ⟨wv11, h8⟩, h9⟩
  have HM11 := hid h8
  have HG11 := hid (HG10.out.trans h9)
  clear h8 h9
  go_wp2_with fail
  exact ⟨rfl, .tuple #[], by first | rfl | kernel_rfl, rfl, pst_eq HEQ.out ⟨_, _, _, _, _, HM11.out⟩, HG11.out⟩
 ·have hr1 : r = 0 := by omega
  have d1 : decide (0 < (0 : Int)) = false := by decide
  subst hr1
  by_cases hk : t.kind = 3
  ·have HKD := hid (show (tk T s.nx).kind ≠ 0 by rw [← HT.out]; omega)
   by_cases hx : t.text.toList = [105, 110]
   ·have HBE := hid (show betO t = some (7, 0) by unfold betO; rw [if_neg (by omega), if_pos hk, if_pos hx])
    have HEQ := hid (show relM T base s fr = .ok (([awt 6, ⟨11, 7, (t.a : Int), ⟨#[]⟩, 0, base⟩], fr), Go.Proofs.YtcldglilhhhdoaaGreatDoor.L.adv s) by unfold relM; rw [← HT.out, HBE.out])
    have HW0 := hid (show (decide ((tk T s.nx).kind = 3) && decide ((tk T s.nx).text.toList = (⟨#[105, 110]⟩ : ByteArray).toList)) = true by rw [show (⟨#[105, 110]⟩ : ByteArray).toList = [105, 110] from ByteArray.toList_eq _]; rw [← HT.out]; simp [hk, hx])
    have HW1 := hid (show (decide ((tk T s.nx).kind = 3) && decide ((tk T s.nx).text.toList = (⟨#[110, 111, 116, 105, 110]⟩ : ByteArray).toList)) = false by rw [show (⟨#[110, 111, 116, 105, 110]⟩ : ByteArray).toList = [110, 111, 116, 105, 110] from ByteArray.toList_eq _]; rw [← HT.out]; simp [hk, hx])
    rw [HW0.out] at HVw0
    rw [HW1.out] at HVw1
    obtain rfl := HVw0.out
    obtain rfl := HVw1.out
    clear hr hk hx hr0
    go_upto_region 14 with (fail)
    have HX6 := hid (show (Y5.setCell ⟨bp, 1, none⟩ (.int .i64 7)).heap[bp]? = some (.cells #[.int .i64 11, .int .i64 7, .int .i64 (t.a : Int), .string ⟨#[]⟩, .int .i64 0, .int .i64 (base : Int)] 74 (0, 0)) by rw [heap_setCell_same _ _ _ _ _ _ HX5.out]; rfl)
    have HM6 := hid (HM5.out.wbx (i := 1) HX5.out HWB.out (.int .i64 7) HNE.out)
    have HG6 := hid (HG5.out.trans (fmm_wbx (B := B) (i := 1) HX5.out HBB.out (.int .i64 7)))
    generalize Y5.setCell ⟨bp, 1, none⟩ (.int .i64 7) = Y6 at *
    clear y0 y1 y2 y3 y4 y5 g1w g4w
    have ⟨y0, y1, y2, y3, y4, y5⟩ := bx6 HX6.out
    have g1w := frz_row HX6.out 1
    have g4w := frz_row HX6.out 4
    have hb9 : (s.nx : Int) + 1 ≤ 4098 := by have h8 := HM6.out.nx; have h9 := HM6.out.tl; omega
    have c1 : Y6.cell? ⟨mb, 1, none⟩ = some (.int .i64 (s.nx : Int)) := HM6.out.cell 1 (by decide)
    have f1 := frz_row HM6.out.box 1
    go_upto_region 15 with (fail)
    have HQ := hid (HM6.out.adv HKD.out)
    have HX9 := hid ((set_oth HM6.out.box 1 (.int .i64 ((s.nx : Int) + 1)) HNE.out).trans HX6.out)
    have HM9 := hid HQ.out.1
    have HG9 := hid (HG6.out.trans HQ.out.2)
    generalize Y6.setCell ⟨mb, 1, none⟩ (.int .i64 ((s.nx : Int) + 1)) = Y9 at *
    clear c1 f1 hb9 y0 y1 y2 y3 y4 y5 g1w g4w
    have ⟨y0, y1, y2, y3, y4, y5⟩ := bx6 HX9.out
    go_wp2_with fail
    refine (mpush_any HM9.out ⟨11, 7, (t.a : Int), ⟨#[]⟩, 0, base⟩ (by (try simp only [List.length_cons]); omega)).mono ?_
    rintro e Y10 ⟨rfl, ⟨wv10, h8⟩, h9⟩
    have HM10 := hid h8
    have HG10 := hid (HG9.out.trans h9)
    clear h8 h9
    clear y0 y1 y2 y3 y4 y5
    go_wp2_with fail
    refine (mpush_any HM10.out (awt 6) (by (try simp only [List.length_cons]); omega)).mono ?_
    rintro e Y11 ⟨rfl, ⟨wv11, h8⟩, h9⟩
    have HM11 := hid h8
    have HG11 := hid (HG10.out.trans h9)
    clear h8 h9
    go_wp2_with fail
    exact ⟨rfl, .tuple #[], by first | rfl | kernel_rfl, rfl, pst_eq HEQ.out ⟨_, _, _, _, _, HM11.out⟩, HG11.out⟩
   ·by_cases hy : t.text.toList = [110, 111, 116, 105, 110]
    ·have HBE := hid (show betO t = some (7, 1) by unfold betO; rw [if_neg (by omega), if_pos hk, if_neg hx, if_pos hy])
     have HEQ := hid (show relM T base s fr = .ok (([awt 6, ⟨11, 7, (t.a : Int), ⟨#[]⟩, 1, base⟩], fr), Go.Proofs.YtcldglilhhhdoaaGreatDoor.L.adv s) by unfold relM; rw [← HT.out, HBE.out])
     have HW0 := hid (show (decide ((tk T s.nx).kind = 3) && decide ((tk T s.nx).text.toList = (⟨#[105, 110]⟩ : ByteArray).toList)) = false by rw [show (⟨#[105, 110]⟩ : ByteArray).toList = [105, 110] from ByteArray.toList_eq _]; rw [← HT.out]; simp [hk, hy])
     have HW1 := hid (show (decide ((tk T s.nx).kind = 3) && decide ((tk T s.nx).text.toList = (⟨#[110, 111, 116, 105, 110]⟩ : ByteArray).toList)) = true by rw [show (⟨#[110, 111, 116, 105, 110]⟩ : ByteArray).toList = [110, 111, 116, 105, 110] from ByteArray.toList_eq _]; rw [← HT.out]; simp [hk, hy])
     rw [HW0.out] at HVw0
     rw [HW1.out] at HVw1
     obtain rfl := HVw0.out
     obtain rfl := HVw1.out
     clear hr hk hx hy hr0
     go_upto_region 13 with (fail)
     have HX6 := hid (show (Y5.setCell ⟨bp, 1, none⟩ (.int .i64 7)).heap[bp]? = some (.cells #[.int .i64 11, .int .i64 7, .int .i64 (t.a : Int), .string ⟨#[]⟩, .int .i64 0, .int .i64 (base : Int)] 74 (0, 0)) by rw [heap_setCell_same _ _ _ _ _ _ HX5.out]; rfl)
     have HM6 := hid (HM5.out.wbx (i := 1) HX5.out HWB.out (.int .i64 7) HNE.out)
     have HG6 := hid (HG5.out.trans (fmm_wbx (B := B) (i := 1) HX5.out HBB.out (.int .i64 7)))
     generalize Y5.setCell ⟨bp, 1, none⟩ (.int .i64 7) = Y6 at *
     clear y0 y1 y2 y3 y4 y5 g1w g4w
     have ⟨y0, y1, y2, y3, y4, y5⟩ := bx6 HX6.out
     have g1w := frz_row HX6.out 1
     have g4w := frz_row HX6.out 4
     go_upto_region 14 with (fail)
     have HX7 := hid (show (Y6.setCell ⟨bp, 4, none⟩ (.int .i64 1)).heap[bp]? = some (.cells #[.int .i64 11, .int .i64 7, .int .i64 (t.a : Int), .string ⟨#[]⟩, .int .i64 1, .int .i64 (base : Int)] 74 (0, 0)) by rw [heap_setCell_same _ _ _ _ _ _ HX6.out]; rfl)
     have HM7 := hid (HM6.out.wbx (i := 4) HX6.out HWB.out (.int .i64 1) HNE.out)
     have HG7 := hid (HG6.out.trans (fmm_wbx (B := B) (i := 4) HX6.out HBB.out (.int .i64 1)))
     generalize Y6.setCell ⟨bp, 4, none⟩ (.int .i64 1) = Y7 at *
     clear y0 y1 y2 y3 y4 y5 g1w g4w
     have ⟨y0, y1, y2, y3, y4, y5⟩ := bx6 HX7.out
     have g1w := frz_row HX7.out 1
     have g4w := frz_row HX7.out 4
     have hb9 : (s.nx : Int) + 1 ≤ 4098 := by have h8 := HM7.out.nx; have h9 := HM7.out.tl; omega
     have c1 : Y7.cell? ⟨mb, 1, none⟩ = some (.int .i64 (s.nx : Int)) := HM7.out.cell 1 (by decide)
     have f1 := frz_row HM7.out.box 1
     go_upto_region 15 with (fail)
     have HQ := hid (HM7.out.adv HKD.out)
     have HX9 := hid ((set_oth HM7.out.box 1 (.int .i64 ((s.nx : Int) + 1)) HNE.out).trans HX7.out)
     have HM9 := hid HQ.out.1
     have HG9 := hid (HG7.out.trans HQ.out.2)
     generalize Y7.setCell ⟨mb, 1, none⟩ (.int .i64 ((s.nx : Int) + 1)) = Y9 at *
     clear c1 f1 hb9 y0 y1 y2 y3 y4 y5 g1w g4w
     have ⟨y0, y1, y2, y3, y4, y5⟩ := bx6 HX9.out
     go_wp2_with fail
     refine (mpush_any HM9.out ⟨11, 7, (t.a : Int), ⟨#[]⟩, 1, base⟩ (by (try simp only [List.length_cons]); omega)).mono ?_
     rintro e Y10 ⟨rfl, ⟨wv10, h8⟩, h9⟩
     have HM10 := hid h8
     have HG10 := hid (HG9.out.trans h9)
     clear h8 h9
     clear y0 y1 y2 y3 y4 y5
     go_wp2_with fail
     refine (mpush_any HM10.out (awt 6) (by (try simp only [List.length_cons]); omega)).mono ?_
     rintro e Y11 ⟨rfl, ⟨wv11, h8⟩, h9⟩
     have HM11 := hid h8
     have HG11 := hid (HG10.out.trans h9)
     clear h8 h9
     go_wp2_with fail
     exact ⟨rfl, .tuple #[], by first | rfl | kernel_rfl, rfl, pst_eq HEQ.out ⟨_, _, _, _, _, HM11.out⟩, HG11.out⟩
    ·have HBE := hid (show betO t = none by unfold betO; rw [if_neg (by omega), if_pos hk, if_neg hx, if_neg hy])
     have HEQ := hid (show relM T base s fr = .error (rfE T s) by unfold relM; rw [← HT.out, HBE.out])
     have HW0 := hid (show (decide ((tk T s.nx).kind = 3) && decide ((tk T s.nx).text.toList = (⟨#[105, 110]⟩ : ByteArray).toList)) = false by rw [show (⟨#[105, 110]⟩ : ByteArray).toList = [105, 110] from ByteArray.toList_eq _]; rw [← HT.out]; simp [hk, hx])
     have HW1 := hid (show (decide ((tk T s.nx).kind = 3) && decide ((tk T s.nx).text.toList = (⟨#[110, 111, 116, 105, 110]⟩ : ByteArray).toList)) = false by rw [show (⟨#[110, 111, 116, 105, 110]⟩ : ByteArray).toList = [110, 111, 116, 105, 110] from ByteArray.toList_eq _]; rw [← HT.out]; simp [hk, hy])
     rw [HW0.out] at HVw0
     rw [HW1.out] at HVw1
     obtain rfl := HVw0.out
     obtain rfl := HVw1.out
     clear hr hk hx hy hr0
     go_wp2_with fail
     refine (mfail_any HM5.out 120).mono ?_
     rintro e Y6 ⟨rfl, h2, h3⟩
     have HM6 := hid h2
     have HG6 := hid (HG5.out.trans h3)
     clear h2 h3
     go_wp2_with fail
     exact ⟨rfl, .tuple #[], by first | rfl | kernel_rfl, rfl, pst_eq HEQ.out (by rw [fcd_rf]; exact ⟨_, _, _, _, _, _, _, _, HM6.out⟩), HG6.out⟩
  ·have HBE := hid (show betO t = none by unfold betO; (by_cases h4 : t.kind = 4); (unfold relN at hr; rw [if_pos h4] at hr; rw [if_pos h4, if_pos hr.symm]); (rw [if_neg h4, if_neg hk]))
   have HEQ := hid (show relM T base s fr = .error (rfE T s) by unfold relM; rw [← HT.out, HBE.out])
   have HW0 := hid (show (decide ((tk T s.nx).kind = 3) && decide ((tk T s.nx).text.toList = (⟨#[105, 110]⟩ : ByteArray).toList)) = false by rw [show (⟨#[105, 110]⟩ : ByteArray).toList = [105, 110] from ByteArray.toList_eq _]; rw [← HT.out]; simp [hk])
   have HW1 := hid (show (decide ((tk T s.nx).kind = 3) && decide ((tk T s.nx).text.toList = (⟨#[110, 111, 116, 105, 110]⟩ : ByteArray).toList)) = false by rw [show (⟨#[110, 111, 116, 105, 110]⟩ : ByteArray).toList = [110, 111, 116, 105, 110] from ByteArray.toList_eq _]; rw [← HT.out]; simp [hk])
   rw [HW0.out] at HVw0
   rw [HW1.out] at HVw1
   obtain rfl := HVw0.out
   obtain rfl := HVw1.out
   clear hr hk hr0
   go_wp2_with fail
   refine (mfail_any HM5.out 120).mono ?_
   rintro e Y6 ⟨rfl, h2, h3⟩
   have HM6 := hid h2
   have HG6 := hid (HG5.out.trans h3)
   clear h2 h3
   go_wp2_with fail
   exact ⟨rfl, .tuple #[], by first | rfl | kernel_rfl, rfl, pst_eq HEQ.out (by rw [fcd_rf]; exact ⟨_, _, _, _, _, _, _, _, HM6.out⟩), HG6.out⟩
end Go.Proofs.YtcldglilhhhdoaaGreatDoor.L
