import Derived.Test.YtlhlpamciafocaaGreatDoorPa5
import Derived.Laws.ResultCell
namespace Go.Proofs.YtlhlpamciafocaaGreatDoor.L
open Go.RowKit
set_option linter.unusedVariables false
set_option linter.unusedSimpArgs false
theorem cells5 {W : World} {g : Nat} {a0 a1 a2 a3 a4 : Value} {ty : TypeId} (h : W.heap[g]? = some (.cells #[a0, a1, a2, a3, a4] ty (0, 0))) : W.cell? ⟨g, 0, none⟩ = some a0 ∧ W.cell? ⟨g, 1, none⟩ = some a1 ∧ W.cell? ⟨g, 2, none⟩ = some a2 ∧ W.cell? ⟨g, 3, none⟩ = some a3 ∧ W.cell? ⟨g, 4, none⟩ = some a4 :=
  ⟨cell_of_row _ _ 0 _ _ _ h, cell_of_row _ _ 1 _ _ _ h, cell_of_row _ _ 2 _ _ _ h, cell_of_row _ _ 3 _ _ _ h, cell_of_row _ _ 4 _ _ _ h⟩
set_option maxHeartbeats 4000000 in
set_option maxRecDepth 100000 in
theorem isel_any (t : Tok) (w : World) : Calls Tryz.prog 128 #[L.tv t] w fun e w' => e = .returned (.bool (isEl t)) ∧ Below w.heap.size w w' := by
  unfold isEl
  by_cases h1 : t.kind = 1
  · have e1 : ((t.kind : Int) == 1) = true := by simp [h1]
    have d1 : decide (t.kind = 1) = true := by simp [h1]
    rw [d1]
    clear h1 d1
    have HB := hid (belowA w (.cells #[.int .i64 (t.kind : Int), .string t.text, .int .i64 t.num, .int .i64 (t.a : Int), .int .i64 (t.e : Int)] 80))
    have HC := hid (cells5 (heap_alloc_new w (.cells #[.int .i64 (t.kind : Int), .string t.text, .int .i64 t.num, .int .i64 (t.a : Int), .int .i64 (t.e : Int)] 80)))
    unfold L.tv
    go_enter Tryz.func128, Tryz.ntmps128
    go_upto_region 1 with (fail)
    have ⟨x0, x1, x2, x3, x4⟩ := HC.out
    generalize w.alloc (.cells #[.int .i64 (t.kind : Int), .string t.text, .int .i64 t.num, .int .i64 (t.a : Int), .int .i64 (t.e : Int)] 80) = X at *
    go_wp2_with fail
    go_ret
    exact ⟨rfl, HB.out⟩
  · have e1 : ((t.kind : Int) == 1) = false := by simp; omega
    have d1 : decide (t.kind = 1) = false := by simp [h1]
    rw [d1]
    clear h1 d1
    by_cases h2 : t.kind = 2
    · have e2 : ((t.kind : Int) == 2) = true := by simp [h2]
      have d2 : decide (t.kind = 2) = true := by simp [h2]
      rw [d2]
      clear h2 d2
      have HB := hid (belowA w (.cells #[.int .i64 (t.kind : Int), .string t.text, .int .i64 t.num, .int .i64 (t.a : Int), .int .i64 (t.e : Int)] 80))
      have HC := hid (cells5 (heap_alloc_new w (.cells #[.int .i64 (t.kind : Int), .string t.text, .int .i64 t.num, .int .i64 (t.a : Int), .int .i64 (t.e : Int)] 80)))
      unfold L.tv
      go_enter Tryz.func128, Tryz.ntmps128
      go_upto_region 1 with (fail)
      have ⟨x0, x1, x2, x3, x4⟩ := HC.out
      generalize w.alloc (.cells #[.int .i64 (t.kind : Int), .string t.text, .int .i64 t.num, .int .i64 (t.a : Int), .int .i64 (t.e : Int)] 80) = X at *
      go_wp2_with fail
      go_ret
      exact ⟨rfl, HB.out⟩
    · have e2 : ((t.kind : Int) == 2) = false := by simp; omega
      have d2 : decide (t.kind = 2) = false := by simp [h2]
      rw [d2]
      clear h2 d2
      have HB := hid (belowA w (.cells #[.int .i64 (t.kind : Int), .string t.text, .int .i64 t.num, .int .i64 (t.a : Int), .int .i64 (t.e : Int)] 80))
      have HC := hid (cells5 (heap_alloc_new w (.cells #[.int .i64 (t.kind : Int), .string t.text, .int .i64 t.num, .int .i64 (t.a : Int), .int .i64 (t.e : Int)] 80)))
      unfold L.tv
      go_enter Tryz.func128, Tryz.ntmps128
      go_upto_region 1 with (fail)
      have ⟨x0, x1, x2, x3, x4⟩ := HC.out
      generalize w.alloc (.cells #[.int .i64 (t.kind : Int), .string t.text, .int .i64 t.num, .int .i64 (t.a : Int), .int .i64 (t.e : Int)] 80) = X at *
      go_wp2_with fail
      go_ret
      exact ⟨rfl, HB.out⟩
theorem beq_t {l m : List UInt8} (h : l = m) : (l == m) = true := by simp [h]
theorem beq_f {l m : List UInt8} (h : ¬ l = m) : (l == m) = false := by simp [h]
set_option maxHeartbeats 4000000 in
set_option maxRecDepth 100000 in
theorem fieldof_any (t : Tok) (w : World) : Calls Tryz.prog 147 #[L.tv t] w fun e w' => e = .returned (.int .i64 (fieldO t)) ∧ Below w.heap.size w w' := by
  unfold fieldO
  by_cases h : t.kind = 3
  · have e1 : ((t.kind : Int) != 3) = false := by simp [h]
    rw [if_pos h]
    clear h
    by_cases h0 : t.text.toList = [110, 97, 109, 101]
    · have w0 := beq_t h0
      rw [if_pos h0]
      clear h0
      have HB := hid (belowA w (.cells #[.int .i64 (t.kind : Int), .string t.text, .int .i64 t.num, .int .i64 (t.a : Int), .int .i64 (t.e : Int)] 80))
      have HC := hid (cells5 (heap_alloc_new w (.cells #[.int .i64 (t.kind : Int), .string t.text, .int .i64 t.num, .int .i64 (t.a : Int), .int .i64 (t.e : Int)] 80)))
      unfold L.tv
      go_enter Tryz.func147, Tryz.ntmps147
      go_upto_region 1 with (fail)
      have ⟨x0, x1, x2, x3, x4⟩ := HC.out
      generalize w.alloc (.cells #[.int .i64 (t.kind : Int), .string t.text, .int .i64 t.num, .int .i64 (t.a : Int), .int .i64 (t.e : Int)] 80) = X at *
      go_wp2_with fail
      go_ret
      exact ⟨rfl, HB.out⟩
    have w0 := beq_f h0
    rw [if_neg h0]
    clear h0
    by_cases h1 : t.text.toList = [107, 101, 121, 115]
    · have w1 := beq_t h1
      rw [if_pos h1]
      clear h1
      have HB := hid (belowA w (.cells #[.int .i64 (t.kind : Int), .string t.text, .int .i64 t.num, .int .i64 (t.a : Int), .int .i64 (t.e : Int)] 80))
      have HC := hid (cells5 (heap_alloc_new w (.cells #[.int .i64 (t.kind : Int), .string t.text, .int .i64 t.num, .int .i64 (t.a : Int), .int .i64 (t.e : Int)] 80)))
      unfold L.tv
      go_enter Tryz.func147, Tryz.ntmps147
      go_upto_region 1 with (fail)
      have ⟨x0, x1, x2, x3, x4⟩ := HC.out
      generalize w.alloc (.cells #[.int .i64 (t.kind : Int), .string t.text, .int .i64 t.num, .int .i64 (t.a : Int), .int .i64 (t.e : Int)] 80) = X at *
      go_wp2_with fail
      go_ret
      exact ⟨rfl, HB.out⟩
    have w1 := beq_f h1
    rw [if_neg h1]
    clear h1
    by_cases h2 : t.text.toList = [116, 97, 105, 110, 116, 115]
    · have w2 := beq_t h2
      rw [if_pos h2]
      clear h2
      have HB := hid (belowA w (.cells #[.int .i64 (t.kind : Int), .string t.text, .int .i64 t.num, .int .i64 (t.a : Int), .int .i64 (t.e : Int)] 80))
      have HC := hid (cells5 (heap_alloc_new w (.cells #[.int .i64 (t.kind : Int), .string t.text, .int .i64 t.num, .int .i64 (t.a : Int), .int .i64 (t.e : Int)] 80)))
      unfold L.tv
      go_enter Tryz.func147, Tryz.ntmps147
      go_upto_region 1 with (fail)
      have ⟨x0, x1, x2, x3, x4⟩ := HC.out
      generalize w.alloc (.cells #[.int .i64 (t.kind : Int), .string t.text, .int .i64 t.num, .int .i64 (t.a : Int), .int .i64 (t.e : Int)] 80) = X at *
      go_wp2_with fail
      go_ret
      exact ⟨rfl, HB.out⟩
    have w2 := beq_f h2
    rw [if_neg h2]
    clear h2
    by_cases h3 : t.text.toList = [99, 97, 112]
    · have w3 := beq_t h3
      rw [if_pos h3]
      clear h3
      have HB := hid (belowA w (.cells #[.int .i64 (t.kind : Int), .string t.text, .int .i64 t.num, .int .i64 (t.a : Int), .int .i64 (t.e : Int)] 80))
      have HC := hid (cells5 (heap_alloc_new w (.cells #[.int .i64 (t.kind : Int), .string t.text, .int .i64 t.num, .int .i64 (t.a : Int), .int .i64 (t.e : Int)] 80)))
      unfold L.tv
      go_enter Tryz.func147, Tryz.ntmps147
      go_upto_region 1 with (fail)
      have ⟨x0, x1, x2, x3, x4⟩ := HC.out
      generalize w.alloc (.cells #[.int .i64 (t.kind : Int), .string t.text, .int .i64 t.num, .int .i64 (t.a : Int), .int .i64 (t.e : Int)] 80) = X at *
      go_wp2_with fail
      go_ret
      exact ⟨rfl, HB.out⟩
    have w3 := beq_f h3
    rw [if_neg h3]
    clear h3
    have HB := hid (belowA w (.cells #[.int .i64 (t.kind : Int), .string t.text, .int .i64 t.num, .int .i64 (t.a : Int), .int .i64 (t.e : Int)] 80))
    have HC := hid (cells5 (heap_alloc_new w (.cells #[.int .i64 (t.kind : Int), .string t.text, .int .i64 t.num, .int .i64 (t.a : Int), .int .i64 (t.e : Int)] 80)))
    unfold L.tv
    go_enter Tryz.func147, Tryz.ntmps147
    go_upto_region 1 with (fail)
    have ⟨x0, x1, x2, x3, x4⟩ := HC.out
    generalize w.alloc (.cells #[.int .i64 (t.kind : Int), .string t.text, .int .i64 t.num, .int .i64 (t.a : Int), .int .i64 (t.e : Int)] 80) = X at *
    go_wp2_with fail
    go_ret
    exact ⟨rfl, HB.out⟩
  · have e1 : ((t.kind : Int) != 3) = true := by simp; omega
    rw [if_neg h]
    clear h
    have HB := hid (belowA w (.cells #[.int .i64 (t.kind : Int), .string t.text, .int .i64 t.num, .int .i64 (t.a : Int), .int .i64 (t.e : Int)] 80))
    have HC := hid (cells5 (heap_alloc_new w (.cells #[.int .i64 (t.kind : Int), .string t.text, .int .i64 t.num, .int .i64 (t.a : Int), .int .i64 (t.e : Int)] 80)))
    unfold L.tv
    go_enter Tryz.func147, Tryz.ntmps147
    go_upto_region 1 with (fail)
    have ⟨x0, x1, x2, x3, x4⟩ := HC.out
    generalize w.alloc (.cells #[.int .i64 (t.kind : Int), .string t.text, .int .i64 t.num, .int .i64 (t.a : Int), .int .i64 (t.e : Int)] 80) = X at *
    go_wp2_with fail
    go_ret
    exact ⟨rfl, HB.out⟩
set_option maxHeartbeats 4000000 in
set_option maxRecDepth 100000 in
theorem cmpof_any (m : ByteArray) (w : World) : Calls Tryz.prog 132 #[.string m] w fun e w' => e = .returned (.int .i64 (cmpO m.toList)) ∧ w' = w := by
  unfold cmpO
  by_cases h0 : m.toList = [61, 61]
  · have w0 := beq_t h0
    rw [if_pos h0]
    clear h0
    go_enter Tryz.func132, Tryz.ntmps132
    go_wp2_with fail
    go_ret
    exact ⟨rfl, rfl⟩
  have w0 := beq_f h0
  rw [if_neg h0]
  clear h0
  by_cases h1 : m.toList = [33, 61]
  · have w1 := beq_t h1
    rw [if_pos h1]
    clear h1
    go_enter Tryz.func132, Tryz.ntmps132
    go_wp2_with fail
    go_ret
    exact ⟨rfl, rfl⟩
  have w1 := beq_f h1
  rw [if_neg h1]
  clear h1
  by_cases h2 : m.toList = [60]
  · have w2 := beq_t h2
    rw [if_pos h2]
    clear h2
    go_enter Tryz.func132, Tryz.ntmps132
    go_wp2_with fail
    go_ret
    exact ⟨rfl, rfl⟩
  have w2 := beq_f h2
  rw [if_neg h2]
  clear h2
  by_cases h3 : m.toList = [60, 61]
  · have w3 := beq_t h3
    rw [if_pos h3]
    clear h3
    go_enter Tryz.func132, Tryz.ntmps132
    go_wp2_with fail
    go_ret
    exact ⟨rfl, rfl⟩
  have w3 := beq_f h3
  rw [if_neg h3]
  clear h3
  by_cases h4 : m.toList = [62]
  · have w4 := beq_t h4
    rw [if_pos h4]
    clear h4
    go_enter Tryz.func132, Tryz.ntmps132
    go_wp2_with fail
    go_ret
    exact ⟨rfl, rfl⟩
  have w4 := beq_f h4
  rw [if_neg h4]
  clear h4
  by_cases h5 : m.toList = [62, 61]
  · have w5 := beq_t h5
    rw [if_pos h5]
    clear h5
    go_enter Tryz.func132, Tryz.ntmps132
    go_wp2_with fail
    go_ret
    exact ⟨rfl, rfl⟩
  have w5 := beq_f h5
  rw [if_neg h5]
  clear h5
  go_enter Tryz.func132, Tryz.ntmps132
  go_wp2_with fail
  go_ret
  exact ⟨rfl, rfl⟩
/-- What stands between two terms, as the program says it. -/
def BwR (t : Tok) (e : Ending) : Prop := ∃ k n, e = .returned (.tuple #[.agg #[.int .i64 k, .string ⟨#[]⟩, .int .i64 n, .slice none 0 0], .bool (betO t).isSome]) ∧ ∀ k' n', betO t = some (k', n') → k = k' ∧ n = n'
theorem bwr_yes {t : Tok} {k n : Int} (h : betO t = some (k, n)) : BwR t (.returned (.tuple #[.agg #[.int .i64 k, .string ⟨#[]⟩, .int .i64 n, .slice none 0 0], .bool true])) := ⟨k, n, (by rw [h]; rfl), fun k' n' h' => (by rw [h] at h'; injection h' with h'; injection h' with h1 h2; exact ⟨h1, h2⟩)⟩
theorem bwr_no {t : Tok} {k n : Int} (h : betO t = none) : BwR t (.returned (.tuple #[.agg #[.int .i64 k, .string ⟨#[]⟩, .int .i64 n, .slice none 0 0], .bool false])) := ⟨k, n, (by rw [h]; rfl), fun k' n' h' => (by rw [h] at h'; cases h')⟩
theorem res_part {fn : Func} {p u : Tmp} (h : fn.results = #[.cell p 50, .tmp u]) (tmps : Array Value) (w : World) (g : Nat) (cs : Array Value) (hp : tmps.getD p undef = .pointer (some ⟨g, 0, none⟩)) (hg : w.heap[g]? = some (.cells cs 50 (0, 0))) (hs : cs.size = 4) : (results fn tmps).run Tryz.prog w = .ok (.tuple #[.agg cs, tmps.getD u undef]) w := by
  rw [results_cell_tmp h, hp]
  simp only [asAddr, Sem.run_pure, Result.andThen_ok, run_loadVar_row (P := Tryz.prog) w g 50 50 cs (0, 0) _ hg Tryz.underlying50 rfl (by rw [hs]; exact infoP4)]
set_option maxHeartbeats 4000000 in
set_option maxRecDepth 100000 in
theorem between_any (t : Tok) (w : World) : Calls Tryz.prog 118 #[L.tv t] w fun e w' => BwR t e ∧ Below w.heap.size w w' := by
  obtain ⟨z, hz⟩ : ∃ z, z = betO t := ⟨_, rfl⟩
  have HD := hz
  unfold betO at HD
  by_cases h4 : t.kind = 4
  · have e4 : ((t.kind : Int) == 4) = true := by simp [h4]
    rw [if_pos h4] at HD
    obtain ⟨c, hc⟩ : ∃ c, c = cmpO t.text.toList := ⟨_, rfl⟩
    have HCM := hid hc.symm
    rw [← hc] at HD
    clear h4 hc
    by_cases h0 : c = 0
    · have e0 : (c != 0) = false := by simp [h0]
      rw [if_pos h0] at HD
      have HE := hid (hz.symm.trans HD)
      clear h0 HD hz
      have HB := hid ((belowA w (.cells #[.int .i64 (t.kind : Int), .string t.text, .int .i64 t.num, .int .i64 (t.a : Int), .int .i64 (t.e : Int)] 80)).trans ((belowA (w.alloc (.cells #[.int .i64 (t.kind : Int), .string t.text, .int .i64 t.num, .int .i64 (t.a : Int), .int .i64 (t.e : Int)] 80)) (.cells #[.int .i64 0, .string ⟨#[]⟩, .int .i64 0, .slice none 0 0] 50)).mono (by simp)))
      have HX0 := hid (heap_alloc_new w (.cells #[.int .i64 (t.kind : Int), .string t.text, .int .i64 t.num, .int .i64 (t.a : Int), .int .i64 (t.e : Int)] 80))
      have HS1 := hid (show (w.alloc (.cells #[.int .i64 (t.kind : Int), .string t.text, .int .i64 t.num, .int .i64 (t.a : Int), .int .i64 (t.e : Int)] 80)).heap.size = w.heap.size + 1 by simp)
      have HR := hid (heap_alloc_new (w.alloc (.cells #[.int .i64 (t.kind : Int), .string t.text, .int .i64 t.num, .int .i64 (t.a : Int), .int .i64 (t.e : Int)] 80)) (.cells #[.int .i64 0, .string ⟨#[]⟩, .int .i64 0, .slice none 0 0] 50))
      rw [HS1.out] at HR
      have HC := hid (cells5 (((belowA (w.alloc (.cells #[.int .i64 (t.kind : Int), .string t.text, .int .i64 t.num, .int .i64 (t.a : Int), .int .i64 (t.e : Int)] 80)) (.cells #[.int .i64 0, .string ⟨#[]⟩, .int .i64 0, .slice none 0 0] 50)).block _ (lt_blk HX0.out)).trans HX0.out))
      unfold L.tv
      go_enter Tryz.func118, Tryz.ntmps118
      go_upto_region 1 with (fail)
      have ⟨x0, x1, x2, x3, x4⟩ := HC.out
      generalize ((w.alloc (.cells #[.int .i64 (t.kind : Int), .string t.text, .int .i64 t.num, .int .i64 (t.a : Int), .int .i64 (t.e : Int)] 80)).alloc (.cells #[.int .i64 0, .string ⟨#[]⟩, .int .i64 0, .slice none 0 0] 50)) = X at *
      go_upto_region 4 with (go_at_call 132; refine (cmpof_any _ _).mono ?_; rintro e w2 ⟨rfl, hw⟩; rw [hw]; clear hw w2; try rw [HCM.out])
      clear x0 x1 x2 x3 x4
      refine wp_region_lit ?_
      refine wpList_plain rfl fun K hK => ?_
      have HK := hid hK
      clear hK
      go_simp
      refine HK.out _ _ ?_
      clear HK
      try simp only [Act.put, List.setIfInBounds_toArray, List.set_cons_zero, List.set_cons_succ]
      refine wpList_plain rfl fun K hK => ?_
      have HK := hid hK
      clear hK
      go_simp
      refine HK.out _ _ ?_
      clear HK
      try simp only [Act.put, List.setIfInBounds_toArray, List.set_cons_zero, List.set_cons_succ]
      refine wpList_plain rfl fun K hK => ?_
      have HK := hid hK
      clear hK
      go_simp
      refine HK.out _ _ ?_
      clear HK
      try simp only [Act.put, List.setIfInBounds_toArray, List.set_cons_zero, List.set_cons_succ]
      refine wpList_plain rfl fun K hK => ?_
      have HK := hid hK
      clear hK
      go_simp
      refine HK.out _ _ ?_
      clear HK
      try simp only [Act.put, List.setIfInBounds_toArray, List.set_cons_zero, List.set_cons_succ]
      refine wpList_store_row rfl 50 _ _ rfl (w.heap.size + 1) #[.int .i64 6, .string ⟨#[]⟩, .int .i64 c, .slice none 0 0] rfl rfl 50 _ HR.out infoP4 rfl (by kernel_rfl) ?_
      try simp only [Act.put, List.setIfInBounds_toArray, List.set_cons_zero, List.set_cons_succ]
      have HV := hid (setRow_heap X _ _ #[.int .i64 6, .string ⟨#[]⟩, .int .i64 c, .slice none 0 0] _ _ HR.out)
      have HBV := hid (below_row HB.out (w.heap.size + 1) #[.int .i64 6, .string ⟨#[]⟩, .int .i64 c, .slice none 0 0] (by omega))
      generalize X.setRow (w.heap.size + 1) #[.int .i64 6, .string ⟨#[]⟩, .int .i64 c, .slice none 0 0] = V at *
      go_wp2_with fail
      exact ⟨rfl, _, res_part Tryz.results118 _ V (w.heap.size + 1) #[.int .i64 6, .string ⟨#[]⟩, .int .i64 c, .slice none 0 0] rfl HV.out rfl, bwr_no HE.out, HBV.out⟩
    · have e0 : (c != 0) = true := by simp [h0]
      rw [if_neg h0] at HD
      have HE := hid (hz.symm.trans HD)
      clear h0 HD hz
      have HB := hid ((belowA w (.cells #[.int .i64 (t.kind : Int), .string t.text, .int .i64 t.num, .int .i64 (t.a : Int), .int .i64 (t.e : Int)] 80)).trans ((belowA (w.alloc (.cells #[.int .i64 (t.kind : Int), .string t.text, .int .i64 t.num, .int .i64 (t.a : Int), .int .i64 (t.e : Int)] 80)) (.cells #[.int .i64 0, .string ⟨#[]⟩, .int .i64 0, .slice none 0 0] 50)).mono (by simp)))
      have HX0 := hid (heap_alloc_new w (.cells #[.int .i64 (t.kind : Int), .string t.text, .int .i64 t.num, .int .i64 (t.a : Int), .int .i64 (t.e : Int)] 80))
      have HS1 := hid (show (w.alloc (.cells #[.int .i64 (t.kind : Int), .string t.text, .int .i64 t.num, .int .i64 (t.a : Int), .int .i64 (t.e : Int)] 80)).heap.size = w.heap.size + 1 by simp)
      have HR := hid (heap_alloc_new (w.alloc (.cells #[.int .i64 (t.kind : Int), .string t.text, .int .i64 t.num, .int .i64 (t.a : Int), .int .i64 (t.e : Int)] 80)) (.cells #[.int .i64 0, .string ⟨#[]⟩, .int .i64 0, .slice none 0 0] 50))
      rw [HS1.out] at HR
      have HC := hid (cells5 (((belowA (w.alloc (.cells #[.int .i64 (t.kind : Int), .string t.text, .int .i64 t.num, .int .i64 (t.a : Int), .int .i64 (t.e : Int)] 80)) (.cells #[.int .i64 0, .string ⟨#[]⟩, .int .i64 0, .slice none 0 0] 50)).block _ (lt_blk HX0.out)).trans HX0.out))
      unfold L.tv
      go_enter Tryz.func118, Tryz.ntmps118
      go_upto_region 1 with (fail)
      have ⟨x0, x1, x2, x3, x4⟩ := HC.out
      generalize ((w.alloc (.cells #[.int .i64 (t.kind : Int), .string t.text, .int .i64 t.num, .int .i64 (t.a : Int), .int .i64 (t.e : Int)] 80)).alloc (.cells #[.int .i64 0, .string ⟨#[]⟩, .int .i64 0, .slice none 0 0] 50)) = X at *
      go_upto_region 4 with (go_at_call 132; refine (cmpof_any _ _).mono ?_; rintro e w2 ⟨rfl, hw⟩; rw [hw]; clear hw w2; try rw [HCM.out])
      clear x0 x1 x2 x3 x4
      refine wp_region_lit ?_
      refine wpList_plain rfl fun K hK => ?_
      have HK := hid hK
      clear hK
      go_simp
      refine HK.out _ _ ?_
      clear HK
      try simp only [Act.put, List.setIfInBounds_toArray, List.set_cons_zero, List.set_cons_succ]
      refine wpList_plain rfl fun K hK => ?_
      have HK := hid hK
      clear hK
      go_simp
      refine HK.out _ _ ?_
      clear HK
      try simp only [Act.put, List.setIfInBounds_toArray, List.set_cons_zero, List.set_cons_succ]
      refine wpList_plain rfl fun K hK => ?_
      have HK := hid hK
      clear hK
      go_simp
      refine HK.out _ _ ?_
      clear HK
      try simp only [Act.put, List.setIfInBounds_toArray, List.set_cons_zero, List.set_cons_succ]
      refine wpList_plain rfl fun K hK => ?_
      have HK := hid hK
      clear hK
      go_simp
      refine HK.out _ _ ?_
      clear HK
      try simp only [Act.put, List.setIfInBounds_toArray, List.set_cons_zero, List.set_cons_succ]
      refine wpList_store_row rfl 50 _ _ rfl (w.heap.size + 1) #[.int .i64 6, .string ⟨#[]⟩, .int .i64 c, .slice none 0 0] rfl rfl 50 _ HR.out infoP4 rfl (by kernel_rfl) ?_
      try simp only [Act.put, List.setIfInBounds_toArray, List.set_cons_zero, List.set_cons_succ]
      have HV := hid (setRow_heap X _ _ #[.int .i64 6, .string ⟨#[]⟩, .int .i64 c, .slice none 0 0] _ _ HR.out)
      have HBV := hid (below_row HB.out (w.heap.size + 1) #[.int .i64 6, .string ⟨#[]⟩, .int .i64 c, .slice none 0 0] (by omega))
      generalize X.setRow (w.heap.size + 1) #[.int .i64 6, .string ⟨#[]⟩, .int .i64 c, .slice none 0 0] = V at *
      go_wp2_with fail
      exact ⟨rfl, _, res_part Tryz.results118 _ V (w.heap.size + 1) #[.int .i64 6, .string ⟨#[]⟩, .int .i64 c, .slice none 0 0] rfl HV.out rfl, bwr_yes HE.out, HBV.out⟩
  · have e4 : ((t.kind : Int) == 4) = false := by simp; omega
    rw [if_neg h4] at HD
    clear h4
    by_cases h3 : t.kind = 3
    · have e3 : ((t.kind : Int) == 3) = true := by simp [h3]
      rw [if_pos h3] at HD
      clear h3
      by_cases h0 : t.text.toList = [105, 110]
      · have w0 := beq_t h0
        rw [if_pos h0] at HD
        have HE := hid (hz.symm.trans HD)
        clear h0 HD hz
        have HB := hid ((belowA w (.cells #[.int .i64 (t.kind : Int), .string t.text, .int .i64 t.num, .int .i64 (t.a : Int), .int .i64 (t.e : Int)] 80)).trans ((belowA (w.alloc (.cells #[.int .i64 (t.kind : Int), .string t.text, .int .i64 t.num, .int .i64 (t.a : Int), .int .i64 (t.e : Int)] 80)) (.cells #[.int .i64 0, .string ⟨#[]⟩, .int .i64 0, .slice none 0 0] 50)).mono (by simp)))
        have HX0 := hid (heap_alloc_new w (.cells #[.int .i64 (t.kind : Int), .string t.text, .int .i64 t.num, .int .i64 (t.a : Int), .int .i64 (t.e : Int)] 80))
        have HS1 := hid (show (w.alloc (.cells #[.int .i64 (t.kind : Int), .string t.text, .int .i64 t.num, .int .i64 (t.a : Int), .int .i64 (t.e : Int)] 80)).heap.size = w.heap.size + 1 by simp)
        have HR := hid (heap_alloc_new (w.alloc (.cells #[.int .i64 (t.kind : Int), .string t.text, .int .i64 t.num, .int .i64 (t.a : Int), .int .i64 (t.e : Int)] 80)) (.cells #[.int .i64 0, .string ⟨#[]⟩, .int .i64 0, .slice none 0 0] 50))
        rw [HS1.out] at HR
        have HC := hid (cells5 (((belowA (w.alloc (.cells #[.int .i64 (t.kind : Int), .string t.text, .int .i64 t.num, .int .i64 (t.a : Int), .int .i64 (t.e : Int)] 80)) (.cells #[.int .i64 0, .string ⟨#[]⟩, .int .i64 0, .slice none 0 0] 50)).block _ (lt_blk HX0.out)).trans HX0.out))
        unfold L.tv
        go_enter Tryz.func118, Tryz.ntmps118
        go_upto_region 1 with (fail)
        have ⟨x0, x1, x2, x3, x4⟩ := HC.out
        generalize ((w.alloc (.cells #[.int .i64 (t.kind : Int), .string t.text, .int .i64 t.num, .int .i64 (t.a : Int), .int .i64 (t.e : Int)] 80)).alloc (.cells #[.int .i64 0, .string ⟨#[]⟩, .int .i64 0, .slice none 0 0] 50)) = X at *
        go_upto_region 8 with (fail)
        clear x0 x1 x2 x3 x4
        refine wp_region_lit ?_
        refine wpList_plain rfl fun K hK => ?_
        have HK := hid hK
        clear hK
        go_simp
        refine HK.out _ _ ?_
        clear HK
        try simp only [Act.put, List.setIfInBounds_toArray, List.set_cons_zero, List.set_cons_succ]
        refine wpList_store_row rfl 50 _ _ rfl (w.heap.size + 1) #[.int .i64 7, .string ⟨#[]⟩, .int .i64 0, .slice none 0 0] rfl rfl 50 _ HR.out infoP4 rfl (by kernel_rfl) ?_
        try simp only [Act.put, List.setIfInBounds_toArray, List.set_cons_zero, List.set_cons_succ]
        have HV := hid (setRow_heap X _ _ #[.int .i64 7, .string ⟨#[]⟩, .int .i64 0, .slice none 0 0] _ _ HR.out)
        have HBV := hid (below_row HB.out (w.heap.size + 1) #[.int .i64 7, .string ⟨#[]⟩, .int .i64 0, .slice none 0 0] (by omega))
        generalize X.setRow (w.heap.size + 1) #[.int .i64 7, .string ⟨#[]⟩, .int .i64 0, .slice none 0 0] = V at *
        go_wp2_with fail
        exact ⟨rfl, _, res_part Tryz.results118 _ V (w.heap.size + 1) #[.int .i64 7, .string ⟨#[]⟩, .int .i64 0, .slice none 0 0] rfl HV.out rfl, bwr_yes HE.out, HBV.out⟩
      have w0 := beq_f h0
      rw [if_neg h0] at HD
      clear h0
      by_cases h1 : t.text.toList = [110, 111, 116, 105, 110]
      · have w1 := beq_t h1
        rw [if_pos h1] at HD
        have HE := hid (hz.symm.trans HD)
        clear h1 HD hz
        have HB := hid ((belowA w (.cells #[.int .i64 (t.kind : Int), .string t.text, .int .i64 t.num, .int .i64 (t.a : Int), .int .i64 (t.e : Int)] 80)).trans ((belowA (w.alloc (.cells #[.int .i64 (t.kind : Int), .string t.text, .int .i64 t.num, .int .i64 (t.a : Int), .int .i64 (t.e : Int)] 80)) (.cells #[.int .i64 0, .string ⟨#[]⟩, .int .i64 0, .slice none 0 0] 50)).mono (by simp)))
        have HX0 := hid (heap_alloc_new w (.cells #[.int .i64 (t.kind : Int), .string t.text, .int .i64 t.num, .int .i64 (t.a : Int), .int .i64 (t.e : Int)] 80))
        have HS1 := hid (show (w.alloc (.cells #[.int .i64 (t.kind : Int), .string t.text, .int .i64 t.num, .int .i64 (t.a : Int), .int .i64 (t.e : Int)] 80)).heap.size = w.heap.size + 1 by simp)
        have HR := hid (heap_alloc_new (w.alloc (.cells #[.int .i64 (t.kind : Int), .string t.text, .int .i64 t.num, .int .i64 (t.a : Int), .int .i64 (t.e : Int)] 80)) (.cells #[.int .i64 0, .string ⟨#[]⟩, .int .i64 0, .slice none 0 0] 50))
        rw [HS1.out] at HR
        have HC := hid (cells5 (((belowA (w.alloc (.cells #[.int .i64 (t.kind : Int), .string t.text, .int .i64 t.num, .int .i64 (t.a : Int), .int .i64 (t.e : Int)] 80)) (.cells #[.int .i64 0, .string ⟨#[]⟩, .int .i64 0, .slice none 0 0] 50)).block _ (lt_blk HX0.out)).trans HX0.out))
        unfold L.tv
        go_enter Tryz.func118, Tryz.ntmps118
        go_upto_region 1 with (fail)
        have ⟨x0, x1, x2, x3, x4⟩ := HC.out
        generalize ((w.alloc (.cells #[.int .i64 (t.kind : Int), .string t.text, .int .i64 t.num, .int .i64 (t.a : Int), .int .i64 (t.e : Int)] 80)).alloc (.cells #[.int .i64 0, .string ⟨#[]⟩, .int .i64 0, .slice none 0 0] 50)) = X at *
        go_upto_region 10 with (fail)
        clear x0 x1 x2 x3 x4
        refine wp_region_lit ?_
        refine wpList_plain rfl fun K hK => ?_
        have HK := hid hK
        clear hK
        go_simp
        refine HK.out _ _ ?_
        clear HK
        try simp only [Act.put, List.setIfInBounds_toArray, List.set_cons_zero, List.set_cons_succ]
        refine wpList_store_row rfl 50 _ _ rfl (w.heap.size + 1) #[.int .i64 7, .string ⟨#[]⟩, .int .i64 1, .slice none 0 0] rfl rfl 50 _ HR.out infoP4 rfl (by kernel_rfl) ?_
        try simp only [Act.put, List.setIfInBounds_toArray, List.set_cons_zero, List.set_cons_succ]
        have HV := hid (setRow_heap X _ _ #[.int .i64 7, .string ⟨#[]⟩, .int .i64 1, .slice none 0 0] _ _ HR.out)
        have HBV := hid (below_row HB.out (w.heap.size + 1) #[.int .i64 7, .string ⟨#[]⟩, .int .i64 1, .slice none 0 0] (by omega))
        generalize X.setRow (w.heap.size + 1) #[.int .i64 7, .string ⟨#[]⟩, .int .i64 1, .slice none 0 0] = V at *
        go_wp2_with fail
        exact ⟨rfl, _, res_part Tryz.results118 _ V (w.heap.size + 1) #[.int .i64 7, .string ⟨#[]⟩, .int .i64 1, .slice none 0 0] rfl HV.out rfl, bwr_yes HE.out, HBV.out⟩
      have w1 := beq_f h1
      rw [if_neg h1] at HD
      clear h1
      have HE := hid (hz.symm.trans HD)
      clear HD hz
      have HB := hid ((belowA w (.cells #[.int .i64 (t.kind : Int), .string t.text, .int .i64 t.num, .int .i64 (t.a : Int), .int .i64 (t.e : Int)] 80)).trans ((belowA (w.alloc (.cells #[.int .i64 (t.kind : Int), .string t.text, .int .i64 t.num, .int .i64 (t.a : Int), .int .i64 (t.e : Int)] 80)) (.cells #[.int .i64 0, .string ⟨#[]⟩, .int .i64 0, .slice none 0 0] 50)).mono (by simp)))
      have HX0 := hid (heap_alloc_new w (.cells #[.int .i64 (t.kind : Int), .string t.text, .int .i64 t.num, .int .i64 (t.a : Int), .int .i64 (t.e : Int)] 80))
      have HS1 := hid (show (w.alloc (.cells #[.int .i64 (t.kind : Int), .string t.text, .int .i64 t.num, .int .i64 (t.a : Int), .int .i64 (t.e : Int)] 80)).heap.size = w.heap.size + 1 by simp)
      have HR := hid (heap_alloc_new (w.alloc (.cells #[.int .i64 (t.kind : Int), .string t.text, .int .i64 t.num, .int .i64 (t.a : Int), .int .i64 (t.e : Int)] 80)) (.cells #[.int .i64 0, .string ⟨#[]⟩, .int .i64 0, .slice none 0 0] 50))
      rw [HS1.out] at HR
      have HC := hid (cells5 (((belowA (w.alloc (.cells #[.int .i64 (t.kind : Int), .string t.text, .int .i64 t.num, .int .i64 (t.a : Int), .int .i64 (t.e : Int)] 80)) (.cells #[.int .i64 0, .string ⟨#[]⟩, .int .i64 0, .slice none 0 0] 50)).block _ (lt_blk HX0.out)).trans HX0.out))
      unfold L.tv
      go_enter Tryz.func118, Tryz.ntmps118
      go_upto_region 1 with (fail)
      have ⟨x0, x1, x2, x3, x4⟩ := HC.out
      generalize ((w.alloc (.cells #[.int .i64 (t.kind : Int), .string t.text, .int .i64 t.num, .int .i64 (t.a : Int), .int .i64 (t.e : Int)] 80)).alloc (.cells #[.int .i64 0, .string ⟨#[]⟩, .int .i64 0, .slice none 0 0] 50)) = X at *
      go_upto_region 11 with (fail)
      clear x0 x1 x2 x3 x4
      refine wp_region_lit ?_
      refine wpList_plain rfl fun K hK => ?_
      have HK := hid hK
      clear hK
      go_simp
      refine HK.out _ _ ?_
      clear HK
      try simp only [Act.put, List.setIfInBounds_toArray, List.set_cons_zero, List.set_cons_succ]
      refine wpList_store_row rfl 50 _ _ rfl (w.heap.size + 1) #[.int .i64 0, .string ⟨#[]⟩, .int .i64 0, .slice none 0 0] rfl rfl 50 _ HR.out infoP4 rfl (by kernel_rfl) ?_
      try simp only [Act.put, List.setIfInBounds_toArray, List.set_cons_zero, List.set_cons_succ]
      have HV := hid (setRow_heap X _ _ #[.int .i64 0, .string ⟨#[]⟩, .int .i64 0, .slice none 0 0] _ _ HR.out)
      have HBV := hid (below_row HB.out (w.heap.size + 1) #[.int .i64 0, .string ⟨#[]⟩, .int .i64 0, .slice none 0 0] (by omega))
      generalize X.setRow (w.heap.size + 1) #[.int .i64 0, .string ⟨#[]⟩, .int .i64 0, .slice none 0 0] = V at *
      go_wp2_with fail
      exact ⟨rfl, _, res_part Tryz.results118 _ V (w.heap.size + 1) #[.int .i64 0, .string ⟨#[]⟩, .int .i64 0, .slice none 0 0] rfl HV.out rfl, bwr_no HE.out, HBV.out⟩
    · have e3 : ((t.kind : Int) == 3) = false := by simp; omega
      rw [if_neg h3] at HD
      have HE := hid (hz.symm.trans HD)
      clear h3 HD hz
      have HB := hid ((belowA w (.cells #[.int .i64 (t.kind : Int), .string t.text, .int .i64 t.num, .int .i64 (t.a : Int), .int .i64 (t.e : Int)] 80)).trans ((belowA (w.alloc (.cells #[.int .i64 (t.kind : Int), .string t.text, .int .i64 t.num, .int .i64 (t.a : Int), .int .i64 (t.e : Int)] 80)) (.cells #[.int .i64 0, .string ⟨#[]⟩, .int .i64 0, .slice none 0 0] 50)).mono (by simp)))
      have HX0 := hid (heap_alloc_new w (.cells #[.int .i64 (t.kind : Int), .string t.text, .int .i64 t.num, .int .i64 (t.a : Int), .int .i64 (t.e : Int)] 80))
      have HS1 := hid (show (w.alloc (.cells #[.int .i64 (t.kind : Int), .string t.text, .int .i64 t.num, .int .i64 (t.a : Int), .int .i64 (t.e : Int)] 80)).heap.size = w.heap.size + 1 by simp)
      have HR := hid (heap_alloc_new (w.alloc (.cells #[.int .i64 (t.kind : Int), .string t.text, .int .i64 t.num, .int .i64 (t.a : Int), .int .i64 (t.e : Int)] 80)) (.cells #[.int .i64 0, .string ⟨#[]⟩, .int .i64 0, .slice none 0 0] 50))
      rw [HS1.out] at HR
      have HC := hid (cells5 (((belowA (w.alloc (.cells #[.int .i64 (t.kind : Int), .string t.text, .int .i64 t.num, .int .i64 (t.a : Int), .int .i64 (t.e : Int)] 80)) (.cells #[.int .i64 0, .string ⟨#[]⟩, .int .i64 0, .slice none 0 0] 50)).block _ (lt_blk HX0.out)).trans HX0.out))
      unfold L.tv
      go_enter Tryz.func118, Tryz.ntmps118
      go_upto_region 1 with (fail)
      have ⟨x0, x1, x2, x3, x4⟩ := HC.out
      generalize ((w.alloc (.cells #[.int .i64 (t.kind : Int), .string t.text, .int .i64 t.num, .int .i64 (t.a : Int), .int .i64 (t.e : Int)] 80)).alloc (.cells #[.int .i64 0, .string ⟨#[]⟩, .int .i64 0, .slice none 0 0] 50)) = X at *
      go_upto_region 11 with (fail)
      clear x0 x1 x2 x3 x4
      refine wp_region_lit ?_
      refine wpList_plain rfl fun K hK => ?_
      have HK := hid hK
      clear hK
      go_simp
      refine HK.out _ _ ?_
      clear HK
      try simp only [Act.put, List.setIfInBounds_toArray, List.set_cons_zero, List.set_cons_succ]
      refine wpList_store_row rfl 50 _ _ rfl (w.heap.size + 1) #[.int .i64 0, .string ⟨#[]⟩, .int .i64 0, .slice none 0 0] rfl rfl 50 _ HR.out infoP4 rfl (by kernel_rfl) ?_
      try simp only [Act.put, List.setIfInBounds_toArray, List.set_cons_zero, List.set_cons_succ]
      have HV := hid (setRow_heap X _ _ #[.int .i64 0, .string ⟨#[]⟩, .int .i64 0, .slice none 0 0] _ _ HR.out)
      have HBV := hid (below_row HB.out (w.heap.size + 1) #[.int .i64 0, .string ⟨#[]⟩, .int .i64 0, .slice none 0 0] (by omega))
      generalize X.setRow (w.heap.size + 1) #[.int .i64 0, .string ⟨#[]⟩, .int .i64 0, .slice none 0 0] = V at *
      go_wp2_with fail
      exact ⟨rfl, _, res_part Tryz.results118 _ V (w.heap.size + 1) #[.int .i64 0, .string ⟨#[]⟩, .int .i64 0, .slice none 0 0] rfl HV.out rfl, bwr_no HE.out, HBV.out⟩
end Go.Proofs.YtlhlpamciafocaaGreatDoor.L
