import Derived.Test.YtcldglilhhhdoaaGreatDoorPdG
namespace Go.Proofs.YtcldglilhhhdoaaGreatDoor.L
open Go.RowKit
set_option linter.unusedVariables false
set_option linter.unusedSimpArgs false
theorem rdd_pos {src : ByteArray} {s : PS} (h : Rdd src s) : 0 < s.ps.length := by
  rcases Nat.eq_zero_or_pos s.ps.length with h0 | h0
  · have := h.top
    rw [h0] at this
    simp [fre] at this
  · exact h0
theorem parR_size {src : ByteArray} {s : PS} (h : parR src = .ok s) : src.size ≤ 4096 := by
  unfold parR at h
  cases hs : (scanT src).2 with
  | some q => obtain ⟨c, a⟩ := q; rw [hs] at h; cases h
  | none => exact (scan_shape hs).1
set_option maxHeartbeats 4000000 in
set_option maxRecDepth 100000 in
theorem peither_any (src : ByteArray) (w : World) (hv : Vars w) (h1 : src.size ≤ 140737488355328) : Calls Tryz.prog 4 #[.string src] w fun e w' => e = .returned (.bool true) ∧ Below w.heap.size w w' := by
  have HV := hid hv
  clear hv
  cases hpr : parR src with
  | error q =>
    obtain ⟨c, x⟩ := q
    have HPR := hid hpr
    obtain ⟨hcode, hx0, hx1⟩ := either_bad hpr
    have HNZ := hid (parR_code hpr)
    clear hpr
    obtain ⟨ZC, hz⟩ : ∃ ZC : Array Value, ZC = f19 0 0 := ⟨_, rfl⟩
    have HZC := hid hz
    have HZ9 := hid (show ZC.size = 19 by rw [hz]; rfl)
    clear hz
    have e1 : (#[.int .i64 0, .int .i64 0, .string ⟨#[]⟩, .int .i64 0, .int .i64 0, .int .i64 0, .string ⟨#[]⟩, .int .i64 0, .int .i64 0, .int .i64 0, .string ⟨#[]⟩, .int .i64 0, .int .i64 0, .int .i64 0, .string ⟨#[]⟩, .int .i64 0, .int .i64 0, .int .i64 0, .string ⟨#[]⟩] : Array Value) = ZC := by rw [HZC.out]; rfl
    obtain ⟨cs, hcs⟩ : ∃ cs : Array Value, cs = f19 (c : Int) x := ⟨_, rfl⟩
    have HCS := hid hcs
    have HC9 := hid (show cs.size = 19 by rw [hcs]; rfl)
    have HQ := hid (show cs[0]? = some (.int .i64 (c : Int)) ∧ cs[1]? = some (.int .i64 x) ∧ cs[2]? = some (.string ⟨#[]⟩) ∧ cs[3]? = some (.int .i64 0) by rw [hcs]; exact ⟨rfl, rfl, rfl, rfl⟩)
    clear hcs
    have a1 : decide ((110 : Int) ≤ (c : Int)) = true := by simp; omega
    have a1n : (110 : Int) ≤ (c : Int) := by omega
    have b1 : decide ((0 : Int) ≤ x) = true := by simpa using hx0
    have b2 : decide (x ≤ (src.size : Int)) = true := by simpa using hx1
    rcases hcode with hcode | hcode
    · have a2 : decide ((c : Int) ≤ 115) = true := by simp; omega
      have a2n : (c : Int) ≤ 115 := by omega
      clear hcode
      go_enter Tryz.func4, Tryz.ntmps4
      go_wp2_with fail
      refine (wakes_any w HV.out).mono ?_
      rintro e W1 ⟨rfl, l1⟩
      have HL1 := hid l1
      clear l1
      go_wp2_with fail
      refine (parse_any src W1 (HV.out.low HL1.out)).mono ?_
      rintro e W2 ⟨hp, l2⟩
      have HL2 := hid (HL1.out.trans (l2.mono HL1.out.size))
      clear l2
      unfold PaR at hp
      rw [HPR.out] at hp
      obtain ⟨N, rfl, hf⟩ := hp
      have HF2 := hid hf
      clear hf
      unfold fv
      go_upto_region 4 with fail
      have HB3 := hid (belowA W2 (.cells #[.slice none 0 0] 25))
      have HX3 := hid (heap_alloc_new W2 (.cells #[.slice none 0 0] 25))
      generalize W2.alloc (.cells #[.slice none 0 0] 25) = W3 at *
      generalize hb3 : W2.heap.size = b3 at *
      have HL3 := hid (HL2.out.trans (HB3.out.mono (by have := HL2.out.size; omega)))
      have HF3 := hid (show Fli W3 N c x from (HB3.out.block N (by have := lt_blk HF2.out; omega)).trans HF2.out)
      clear hb3
      have HRD := hid (read_flt N c x W3 HF3.out HNZ.out)
      rw [← HCS.out] at HRD
      unfold fv at HRD
      go_upto_region 5 with fail
      refine wp_region_lit ?_
      refine wpList_plain rfl fun K hK => ?_
      have HK := hid hK
      clear hK
      go_simp
      (try rw [e1])
      refine HK.out _ _ ?_
      clear HK
      try simp only [Act.put, List.setIfInBounds_toArray, List.set_cons_zero, List.set_cons_succ]
      refine wpList_step fun K hK => ?_
      rw [if_pos (by first | rfl | kernel_rfl)]
      go_simp
      refine (HRD.out).mono ?_
      rintro e W4 ⟨rfl, l⟩
      refine hK _ _ ?_
      clear hK K
      try simp only [Act.put, List.setIfInBounds_toArray, List.set_cons_zero, List.set_cons_succ]
      refine wpList_plain rfl fun K hK => ?_
      have HK := hid hK
      clear hK
      go_simp
      (try rw [e1])
      refine HK.out _ _ ?_
      clear HK
      try simp only [Act.put, List.setIfInBounds_toArray, List.set_cons_zero, List.set_cons_succ]
      have HX5 := hid (heap_alloc_new W4 (.cells ZC 35))
      have HL4 := hid (HL3.out.trans (l.mono HL3.out.size))
      have HX34 := hid ((l.block _ (lt_blk HX3.out)).trans HX3.out)
      have HL5 := hid (HL4.out.trans ((belowA W4 (.cells ZC 35)).mono HL4.out.size))
      have HX35 := hid (((belowA W4 (.cells ZC 35)).block _ (lt_blk HX34.out)).trans HX34.out)
      have HGE := hid HL4.out.size
      have HN3 := hid (Nat.ne_of_lt (lt_blk HX34.out))
      clear l
      refine wpList_store_row rfl 35 _ _ rfl W4.heap.size cs rfl rfl 35 ZC HX5.out (by rw [HC9.out]; exact info53) (by rw [HC9.out, HZ9.out]) (by rw [HCS.out]; kernel_rfl) ?_
      try simp only [Act.put, List.setIfInBounds_toArray, List.set_cons_zero, List.set_cons_succ]
      have HX6 := hid (setRow_heap _ _ ZC cs _ _ HX5.out)
      have HL6 := hid (below_row HL5.out W4.heap.size cs HGE.out)
      have HX36 := hid (show ((W4.alloc (.cells ZC 35)).setRow W4.heap.size cs).heap[b3]? = _ from (setRow_other _ _ _ _ HN3.out).trans HX35.out)
      clear HX5 HL5 HX35
      generalize (W4.alloc (.cells ZC 35)).setRow W4.heap.size cs = W6 at *
      generalize W4.heap.size = b8 at *
      have k0 : W6.cell? ⟨b8, 0, none⟩ = some (.int .i64 (c : Int)) := (cell_of_row _ _ 0 _ _ _ HX6.out).trans HQ.out.1
      have k1 : W6.cell? ⟨b8, 1, none⟩ = some (.int .i64 x) := (cell_of_row _ _ 1 _ _ _ HX6.out).trans HQ.out.2.1
      have k2 : W6.cell? ⟨b8, 2, none⟩ = some (.string ⟨#[]⟩) := (cell_of_row _ _ 2 _ _ _ HX6.out).trans HQ.out.2.2.1
      have k3 : W6.cell? ⟨b8, 3, none⟩ = some (.int .i64 0) := (cell_of_row _ _ 3 _ _ _ HX6.out).trans HQ.out.2.2.2
      have kt : W6.cell? ⟨b3, 0, none⟩ = some (.slice none 0 0) := cell_of_row _ _ 0 _ _ _ HX36.out
      go_wp2_with fail
      go_ret
      exact ⟨rfl, HL6.out⟩
    · have a2 : decide ((c : Int) ≤ 115) = false := by simp; omega
      have a2n : ¬ (c : Int) ≤ 115 := by omega
      have a3 : decide ((120 : Int) ≤ (c : Int)) = true := by simp; omega
      have a3n : (120 : Int) ≤ (c : Int) := by omega
      have a4 : decide ((c : Int) ≤ 124) = true := by simp; omega
      have a4n : (c : Int) ≤ 124 := by omega
      clear hcode
      go_enter Tryz.func4, Tryz.ntmps4
      go_wp2_with fail
      refine (wakes_any w HV.out).mono ?_
      rintro e W1 ⟨rfl, l1⟩
      have HL1 := hid l1
      clear l1
      go_wp2_with fail
      refine (parse_any src W1 (HV.out.low HL1.out)).mono ?_
      rintro e W2 ⟨hp, l2⟩
      have HL2 := hid (HL1.out.trans (l2.mono HL1.out.size))
      clear l2
      unfold PaR at hp
      rw [HPR.out] at hp
      obtain ⟨N, rfl, hf⟩ := hp
      have HF2 := hid hf
      clear hf
      unfold fv
      go_upto_region 4 with fail
      have HB3 := hid (belowA W2 (.cells #[.slice none 0 0] 25))
      have HX3 := hid (heap_alloc_new W2 (.cells #[.slice none 0 0] 25))
      generalize W2.alloc (.cells #[.slice none 0 0] 25) = W3 at *
      generalize hb3 : W2.heap.size = b3 at *
      have HL3 := hid (HL2.out.trans (HB3.out.mono (by have := HL2.out.size; omega)))
      have HF3 := hid (show Fli W3 N c x from (HB3.out.block N (by have := lt_blk HF2.out; omega)).trans HF2.out)
      clear hb3
      have HRD := hid (read_flt N c x W3 HF3.out HNZ.out)
      rw [← HCS.out] at HRD
      unfold fv at HRD
      go_upto_region 5 with fail
      refine wp_region_lit ?_
      refine wpList_plain rfl fun K hK => ?_
      have HK := hid hK
      clear hK
      go_simp
      (try rw [e1])
      refine HK.out _ _ ?_
      clear HK
      try simp only [Act.put, List.setIfInBounds_toArray, List.set_cons_zero, List.set_cons_succ]
      refine wpList_step fun K hK => ?_
      rw [if_pos (by first | rfl | kernel_rfl)]
      go_simp
      refine (HRD.out).mono ?_
      rintro e W4 ⟨rfl, l⟩
      refine hK _ _ ?_
      clear hK K
      try simp only [Act.put, List.setIfInBounds_toArray, List.set_cons_zero, List.set_cons_succ]
      refine wpList_plain rfl fun K hK => ?_
      have HK := hid hK
      clear hK
      go_simp
      (try rw [e1])
      refine HK.out _ _ ?_
      clear HK
      try simp only [Act.put, List.setIfInBounds_toArray, List.set_cons_zero, List.set_cons_succ]
      have HX5 := hid (heap_alloc_new W4 (.cells ZC 35))
      have HL4 := hid (HL3.out.trans (l.mono HL3.out.size))
      have HX34 := hid ((l.block _ (lt_blk HX3.out)).trans HX3.out)
      have HL5 := hid (HL4.out.trans ((belowA W4 (.cells ZC 35)).mono HL4.out.size))
      have HX35 := hid (((belowA W4 (.cells ZC 35)).block _ (lt_blk HX34.out)).trans HX34.out)
      have HGE := hid HL4.out.size
      have HN3 := hid (Nat.ne_of_lt (lt_blk HX34.out))
      clear l
      refine wpList_store_row rfl 35 _ _ rfl W4.heap.size cs rfl rfl 35 ZC HX5.out (by rw [HC9.out]; exact info53) (by rw [HC9.out, HZ9.out]) (by rw [HCS.out]; kernel_rfl) ?_
      try simp only [Act.put, List.setIfInBounds_toArray, List.set_cons_zero, List.set_cons_succ]
      have HX6 := hid (setRow_heap _ _ ZC cs _ _ HX5.out)
      have HL6 := hid (below_row HL5.out W4.heap.size cs HGE.out)
      have HX36 := hid (show ((W4.alloc (.cells ZC 35)).setRow W4.heap.size cs).heap[b3]? = _ from (setRow_other _ _ _ _ HN3.out).trans HX35.out)
      clear HX5 HL5 HX35
      generalize (W4.alloc (.cells ZC 35)).setRow W4.heap.size cs = W6 at *
      generalize W4.heap.size = b8 at *
      have k0 : W6.cell? ⟨b8, 0, none⟩ = some (.int .i64 (c : Int)) := (cell_of_row _ _ 0 _ _ _ HX6.out).trans HQ.out.1
      have k1 : W6.cell? ⟨b8, 1, none⟩ = some (.int .i64 x) := (cell_of_row _ _ 1 _ _ _ HX6.out).trans HQ.out.2.1
      have k2 : W6.cell? ⟨b8, 2, none⟩ = some (.string ⟨#[]⟩) := (cell_of_row _ _ 2 _ _ _ HX6.out).trans HQ.out.2.2.1
      have k3 : W6.cell? ⟨b8, 3, none⟩ = some (.int .i64 0) := (cell_of_row _ _ 3 _ _ _ HX6.out).trans HQ.out.2.2.2
      have kt : W6.cell? ⟨b3, 0, none⟩ = some (.slice none 0 0) := cell_of_row _ _ 0 _ _ _ HX36.out
      go_wp2_with fail
      go_ret
      exact ⟨rfl, HL6.out⟩
  | ok s =>
    have HPR := hid hpr
    have HRD := hid (either_ok hpr)
    have HSZ := hid (parR_size hpr)
    clear hpr
    go_enter Tryz.func4, Tryz.ntmps4
    go_wp2_with fail
    refine (wakes_any w HV.out).mono ?_
    rintro e W1 ⟨rfl, l1⟩
    have HL1 := hid l1
    clear l1
    go_wp2_with fail
    refine (parse_any src W1 (HV.out.low HL1.out)).mono ?_
    rintro e W2 ⟨hp, l2⟩
    have HL2 := hid (HL1.out.trans (l2.mono HL1.out.size))
    clear l2
    unfold PaR at hp
    rw [HPR.out] at hp
    obtain ⟨pb, B, Nb, tv, T, v, o, ks, hB, rfl, pm⟩ := hp
    obtain ⟨pa, cap, rfl, hpl⟩ := pm.parts.pl
    obtain ⟨oa, oc, rfl, ro⟩ := own_rdi pm.offs
    rw [HRD.out.len]
    have HPL := hid hpl.pl
    have HRO := hid ro
    clear pm hB hpl ro
    obtain ⟨n, hn⟩ : ∃ n, n = s.ps.length := ⟨_, rfl⟩
    have HN := hid hn
    rw [← hn]
    have hn0 : 0 < n := by rw [hn]; exact rdd_pos HRD.out
    have hn1 : n ≤ 1000 := by rw [hn]; exact HRD.out.most
    have hnm : n ≤ maxLen := by unfold maxLen; omega
    have e0 : ((n : Int) != (n : Int)) = false := by simp
    clear hn
    go_upto_region 4 with fail
    have HB3 := hid (belowA W2 (.cells #[.slice pa n cap] 25))
    have HX3 := hid (heap_alloc_new W2 (.cells #[.slice pa n cap] 25))
    have HPL3 := hid (HPL.out.low HB3.out)
    have HRO3 := hid (HRO.out.low HB3.out (Nat.le_refl _))
    have HL3 := hid (HL2.out.trans (HB3.out.mono HL2.out.size))
    generalize W2.alloc (.cells #[.slice pa n cap] 25) = W3 at *
    generalize W2.heap.size = b3 at *
    have kt : W3.cell? ⟨b3, 0, none⟩ = some (.slice pa n cap) := cell_of_row _ _ 0 _ _ _ HX3.out
    have HFM := hid (form_yes pa s.ps cap W3 HPL3.out (by have := HN.out; omega) HRD.out.most HRD.out.top HRD.out.ok)
    rw [← HN.out] at HFM
    go_wp2_with fail
    refine HFM.out.mono ?_
    rintro e W4 ⟨rfl, l⟩
    have HX4 := hid ((l.block _ (lt_blk HX3.out)).trans HX3.out)
    have HPL4 := hid (HPL3.out.low l)
    have HRO4 := hid (HRO3.out.low l (Nat.le_refl _))
    have HL4 := hid (HL3.out.trans (l.mono HL3.out.size))
    clear l kt HFM
    go_wp2_with fail
    go_loopw [8] (fun i wr => ∃ k : Nat, k ≤ n ∧ i = .int .i64 k ∧ Hid (Below W4.heap.size W4 wr)) (fun i _ => n - (intOf i).toNat)
    case atStart => exact ⟨0, Nat.zero_le _, rfl, hid (Below.refl _ _)⟩
    case round =>
      obtain ⟨k, hk, rfl, HB⟩ := hrel
      by_cases hlt : k < n
      · have hps : k < s.ps.length := by have := HN.out; omega
        obtain ⟨j, hj0, hj1, hbg⟩ := HRD.out.bg k hps
        rcases HPL4.out with h9 | ⟨g, go, rfl, hgl, hc⟩
        · have := HN.out; omega
        obtain ⟨ka, kc, q0, q1, q2, q3, _⟩ := hc k hps
        rcases HRO4.out with h9 | ⟨og, oo, rfl, hol, hoc⟩
        · have h8 := HN.out; have h7 := HRD.out.len; omega
        have r0 := hoc k (by have h7 := HRD.out.len; omega)
        rw [hj0] at r0
        generalize (pt s.ps k).kind = kd at *
        generalize (pt s.ps k).text = tx at *
        generalize (pt s.ps k).num = nu at *
        generalize (pt s.ps k).kids.length = kn at *
        have HBG := hid hbg
        have HJ := hid hj1
        clear hc hoc hj0 hbg
        have MS := hid (show ∀ Z, Below wr.heap.size wr Z → (fun Y => Y.cell? ⟨b3, 0, none⟩ = some (.slice (some ⟨g, go, none⟩) n cap) ∧ (Y.cell? ⟨g, go + k * 4, none⟩ = some (.int .i64 kd) ∧ Y.cell? ⟨g, go + k * 4 + 1, none⟩ = some (.string tx) ∧ Y.cell? ⟨g, go + k * 4 + 2, none⟩ = some (.int .i64 nu) ∧ Y.cell? ⟨g, go + k * 4 + 3, none⟩ = some (.slice ka kn kc)) ∧ Y.cell? ⟨og, oo + k, none⟩ = some (.int .i64 (j : Int))) Z from fun Z hb => (by have hb2 := HB.out.trans (hb.mono HB.out.size); have q := fun (i : Nat) (x : Value) (h : W4.cell? ⟨g, i, none⟩ = some x) => (hb2.cell (p := ⟨g, i, none⟩) hgl).trans h; exact ⟨(hb2.cell (p := ⟨b3, 0, none⟩) (lt_blk HX4.out)).trans (cell_of_row _ _ 0 _ _ _ HX4.out), ⟨q _ _ q0, q _ _ q1, q _ _ q2, q _ _ q3⟩, (hb2.cell (p := ⟨og, oo + k, none⟩) hol).trans r0⟩))
        have g1 : (k : Int) < (n : Int) := by omega
        have g2 : (0 : Int) ≤ (k : Int) := by omega
        have gm : (k : Int) ≤ 1000 := by omega
        clear q0 q1 q2 q3 r0 hj1
        go_upto_region 13 with fail
        have HD := hid (show Below wr.heap.size wr wr.drew from (Below.refl _ _).drew)
        refine wp_region_held_drew (S := (fun Y => Y.cell? ⟨b3, 0, none⟩ = some (.slice (some ⟨g, go, none⟩) n cap) ∧ (Y.cell? ⟨g, go + k * 4, none⟩ = some (.int .i64 kd) ∧ Y.cell? ⟨g, go + k * 4 + 1, none⟩ = some (.string tx) ∧ Y.cell? ⟨g, go + k * 4 + 2, none⟩ = some (.int .i64 nu) ∧ Y.cell? ⟨g, go + k * 4 + 3, none⟩ = some (.slice ka kn kc)) ∧ Y.cell? ⟨og, oo + k, none⟩ = some (.int .i64 (j : Int)))) (by kernel_rfl) ?_ (fun hHeld => ?_)
        · exact MS.out _ HD.out
        generalize wr.drew = Z at *
        refine wpAnyH_take (i := 0) (oi := { dst := some 92, op := Op.move (Operand.tmp 0), type := 9, pos := "law.go:154", after := #[], guard := none }) (v := ?_) rfl (by kernel_rfl) (by kernel_rfl) (by kernel_rfl) (fun _ _ _ h => h) (Or.inl ⟨by rfl, ?_⟩) (by assumption) ?_
        rotate_left
        · (intro w hSw; (try dsimp only at hSw); go_simp; try with_reducible rfl)
        try simp only [Act.put, List.setIfInBounds_toArray, List.set_cons_zero, List.set_cons_succ]
        refine wpAnyH_take (i := 1) (oi := { dst := some 93, op := Op.fieldAddr 25 (Operand.tmp 3) 0, type := 0, pos := "law.go:154", after := #[], guard := none }) (v := ?_) rfl (by kernel_rfl) (by kernel_rfl) (by kernel_rfl) (fun _ _ _ h => h) (Or.inl ⟨by rfl, ?_⟩) (by assumption) ?_
        rotate_left
        · (intro w hSw; (try dsimp only at hSw); go_simp; try with_reducible rfl)
        try simp only [Act.put, List.setIfInBounds_toArray, List.set_cons_zero, List.set_cons_succ]
        refine wpAnyH_take (i := 2) (oi := { dst := some 94, op := Op.load 23 (Operand.tmp 93), type := 23, pos := "law.go:154", after := #[{ on := 1, ground := Ground.data }], guard := none }) (v := ?_) rfl (by kernel_rfl) (by kernel_rfl) (by kernel_rfl) (fun _ _ _ h => h) (Or.inl ⟨by rfl, ?_⟩) (by assumption) ?_
        rotate_left
        · (intro w hSw; (try dsimp only at hSw); go_simp; try with_reducible rfl)
        try simp only [Act.put, List.setIfInBounds_toArray, List.set_cons_zero, List.set_cons_succ]
        refine wpAnyH_take (i := 3) (oi := { dst := some 95, op := Op.move (Operand.tmp 8), type := 3, pos := "law.go:154", after := #[], guard := none }) (v := ?_) rfl (by kernel_rfl) (by kernel_rfl) (by kernel_rfl) (fun _ _ _ h => h) (Or.inl ⟨by rfl, ?_⟩) (by assumption) ?_
        rotate_left
        · (intro w hSw; (try dsimp only at hSw); go_simp; try with_reducible rfl)
        try simp only [Act.put, List.setIfInBounds_toArray, List.set_cons_zero, List.set_cons_succ]
        refine wpAnyH_take (i := 4) (oi := { dst := some 96, op := Op.indexAddr 23 (Operand.tmp 94) (Operand.tmp 95), type := 0, pos := "law.go:154", after := #[{ on := 2, ground := Ground.data }, { on := 3, ground := Ground.data }], guard := none }) (v := ?_) rfl (by kernel_rfl) (by kernel_rfl) (by kernel_rfl) (fun _ _ _ h => h) (Or.inl ⟨by rfl, ?_⟩) (by assumption) ?_
        rotate_left
        · (intro w hSw; (try dsimp only at hSw); go_simp; try with_reducible rfl)
        try simp only [Act.put, List.setIfInBounds_toArray, List.set_cons_zero, List.set_cons_succ]
        refine wpAnyH_take (i := 5) (oi := { dst := some 97, op := Op.load 46 (Operand.tmp 96), type := 46, pos := "law.go:154", after := #[{ on := 4, ground := Ground.data }], guard := none }) (v := ?_) rfl (by kernel_rfl) (by kernel_rfl) (by kernel_rfl) (fun _ _ _ h => h) (Or.inl ⟨by rfl, ?_⟩) (by assumption) ?_
        rotate_left
        · (intro w hSw; (try dsimp only at hSw); go_simp; try with_reducible rfl)
        try simp only [Act.put, List.setIfInBounds_toArray, List.set_cons_zero, List.set_cons_succ]
        refine wpAnyH_take (i := 6) (oi := { dst := some 98, op := Op.move (Operand.tmp 4), type := 26, pos := "law.go:154", after := #[], guard := none }) (v := ?_) rfl (by kernel_rfl) (by kernel_rfl) (by kernel_rfl) (fun _ _ _ h => h) (Or.inl ⟨by rfl, ?_⟩) (by assumption) ?_
        rotate_left
        · (intro w hSw; (try dsimp only at hSw); go_simp; try with_reducible rfl)
        try simp only [Act.put, List.setIfInBounds_toArray, List.set_cons_zero, List.set_cons_succ]
        refine wpAnyH_take (i := 7) (oi := { dst := some 99, op := Op.move (Operand.tmp 8), type := 3, pos := "law.go:154", after := #[], guard := none }) (v := ?_) rfl (by kernel_rfl) (by kernel_rfl) (by kernel_rfl) (fun _ _ _ h => h) (Or.inl ⟨by rfl, ?_⟩) (by assumption) ?_
        rotate_left
        · (intro w hSw; (try dsimp only at hSw); go_simp; try with_reducible rfl)
        try simp only [Act.put, List.setIfInBounds_toArray, List.set_cons_zero, List.set_cons_succ]
        refine wpAnyH_take (i := 8) (oi := { dst := some 100, op := Op.indexAddr 26 (Operand.tmp 98) (Operand.tmp 99), type := 0, pos := "law.go:154", after := #[{ on := 6, ground := Ground.data }, { on := 7, ground := Ground.data }], guard := none }) (v := ?_) rfl (by kernel_rfl) (by kernel_rfl) (by kernel_rfl) (fun _ _ _ h => h) (Or.inl ⟨by rfl, ?_⟩) (by assumption) ?_
        rotate_left
        · (intro w hSw; (try dsimp only at hSw); go_simp; try with_reducible rfl)
        try simp only [Act.put, List.setIfInBounds_toArray, List.set_cons_zero, List.set_cons_succ]
        refine wpAnyH_take (i := 9) (oi := { dst := some 101, op := Op.load 3 (Operand.tmp 100), type := 3, pos := "law.go:154", after := #[{ on := 8, ground := Ground.data }], guard := none }) (v := ?_) rfl (by kernel_rfl) (by kernel_rfl) (by kernel_rfl) (fun _ _ _ h => h) (Or.inl ⟨by rfl, ?_⟩) (by assumption) ?_
        rotate_left
        · (intro w hSw; (try dsimp only at hSw); go_simp; try with_reducible rfl)
        try simp only [Act.put, List.setIfInBounds_toArray, List.set_cons_zero, List.set_cons_succ]
        refine wpAnyH_ready (rs := [10]) (by kernel_rfl) (by simp) ?_
        refine AllReadyH.cons (o := { dst := some 102, op := Op.call { callee := Callee.value (Operand.func 16), args := #[Operand.tmp 92, Operand.tmp 97, Operand.tmp 101], argTypes := #[9, 46, 3] }, type := 4, pos := "law.go:154", after := #[{ on := 0, ground := Ground.data }, { on := 5, ground := Ground.data }, { on := 9, ground := Ground.data }], guard := none }) rfl (fun K hK => ?_) AllReadyH.nil
        go_simp
        refine (begins_yes src j tx nu ka kn kc Z HJ.out HSZ.out kd HBG.out).mono ?_
        rintro e V ⟨rfl, l⟩
        have HV := hid (HD.out.trans (l.mono HD.out.size))
        clear l
        refine hK.out _ _ ?_ (fun hHeld => ?_)
        · exact MS.out _ HV.out
        clear hK K
        try simp only [Act.put, List.setIfInBounds_toArray, List.set_cons_zero, List.set_cons_succ]
        refine wpAnyH_take (i := 11) (oi := { dst := some 103, op := Op.unOp UnOp.not 4 (Operand.tmp 102), type := 4, pos := "law.go:154", after := #[{ on := 10, ground := Ground.data }], guard := none }) (v := ?_) rfl (by kernel_rfl) (by kernel_rfl) (by kernel_rfl) (fun _ _ _ h => h) (Or.inl ⟨by rfl, ?_⟩) (by assumption) ?_
        rotate_left
        · (intro w hSw; (try dsimp only at hSw); go_simp; try with_reducible rfl)
        try simp only [Act.put, List.setIfInBounds_toArray, List.set_cons_zero, List.set_cons_succ]
        refine wpAnyH_done (by kernel_rfl) ?_ _
        clear hHeld
        have HBV := hid (HB.out.trans (HV.out.mono HB.out.size))
        go_wp2_with fail
        refine ⟨⟨k + 1, by omega, by go_num, HBV⟩, by simp [intOf]; omega⟩
      · obtain rfl : k = n := by omega
        go_wp2_with fail
        go_ret
        exact ⟨rfl, HL4.out.trans (HB.out.mono HL4.out.size)⟩
end Go.Proofs.YtcldglilhhhdoaaGreatDoor.L
