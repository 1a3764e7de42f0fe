import Derived.Test.YtimmjikpcekffaaGreatDoorAwb
import Derived.Laws.ResultCell
import Derived.Test.YtimmjikpcekffaaGreatDoorMgAS
namespace Go.Proofs.YtimmjikpcekffaaGreatDoor.L
open Go.RowKit Go.Shelf
set_option linter.unusedVariables false
set_option linter.unusedSimpArgs false
theorem infoPn : (Tryz.prog.info? 25).map (·.size) = some 2 := by kernel_rfl
/-- The fixed plan in memory. -/
def Pn9 (W : World) (r g : Nat) : Prop := ∃ cur, W.heap[r]? = some (.cells cur 51 (0, 0)) ∧ cur.toList.take 19 = [.int .i64 5, .bool true, .int .i64 1, .int .i64 2, .int .i64 2, .string ⟨#[122, 111, 110, 101]⟩, .int .i64 0, .int .i64 0, .int .i64 0, .slice (some ⟨g, 0, none⟩) 1 1, .slice none 0 0, .int .i64 0, .int .i64 0, .string ⟨#[]⟩, .int .i64 0, .int .i64 0, .string ⟨#[]⟩, .int .i64 0, .slice none 0 0] ∧ W.heap[g]? = some (.cells #[.string ⟨#[97]⟩] 9 (0, 0))
theorem Pn9.low {W W' : World} {r g : Nat} (h : Pn9 W r g) (hb : Below W.heap.size W W') : Pn9 W' r g := by
  obtain ⟨cur, h1, h2, h3⟩ := h
  exact ⟨cur, (hb.block _ (lt_blk h1)).trans h1, h2, (hb.block _ (lt_blk h3)).trans h3⟩
theorem But.new {g : Nat} {w0 w w' : World} (h0 : Below w0.heap.size w0 w) (h : But g w w') (hg : w0.heap.size ≤ g) : Below w0.heap.size w0 w' :=
  ⟨h.os.trans h0.os, h.tape.trans h0.tape, h.output.trans h0.output, Nat.le_trans h0.size h.size, fun k hk => (h.block k (Nat.lt_of_lt_of_le hk h0.size) (by omega)).trans (h0.block k hk)⟩
set_option maxHeartbeats 4000000 in
set_option maxRecDepth 100000 in
theorem written9 (b g : Nat) (w : World) (hp : w.heap[b]? = some (.cells #[.int .i64 5, .bool true, .int .i64 1, .int .i64 2, .int .i64 2, .string ⟨#[122, 111, 110, 101]⟩, .int .i64 0, .int .i64 0, .int .i64 0, .slice (some ⟨g, 0, none⟩) 1 1, .slice none 0 0, .int .i64 0, .int .i64 0, .string ⟨#[]⟩, .int .i64 0, .int .i64 0, .string ⟨#[]⟩, .int .i64 0, .slice none 0 0, .pointer none] 95 (0, 0))) (ht : w.heap[g]? = some (.cells #[.string ⟨#[97]⟩] 9 (0, 0))) :
    Calls Tryz.prog 15 #[.pointer (some ⟨b, 0, none⟩)] w fun e w' => ∃ r cap, e = .returned (.agg #[.slice (some ⟨r, 0, none⟩) 1 cap, .slice none 0 0]) ∧ Pn9 w' r g ∧ Below w.heap.size w w' := by
  have HB0 := hid (belowA w (.cells #[.slice none 0 0, .slice none 0 0] 25))
  have HX0 := hid (heap_alloc_new w (.cells #[.slice none 0 0, .slice none 0 0] 25))
  have HB1 := hid (belowA (w.alloc (.cells #[.slice none 0 0, .slice none 0 0] 25)) (.cells #[.slice none 0 0, .slice none 0 0] 74))
  have HX1 := hid (heap_alloc_new (w.alloc (.cells #[.slice none 0 0, .slice none 0 0] 25)) (.cells #[.slice none 0 0, .slice none 0 0] 74))
  have HS1 := hid (show (w.alloc (.cells #[.slice none 0 0, .slice none 0 0] 25)).heap.size = w.heap.size + 1 by simp)
  rw [HS1.out] at HX1
  have HBB := hid (bchS HB0.out HB1.out)
  have HM := hid ((HB1.out.block _ (lt_blk HX0.out)).trans HX0.out)
  have HP := hid ((HBB.out.block _ (lt_blk hp)).trans hp)
  have HT := hid ht
  clear hp ht
  go_enter Tryz.func15, Tryz.ntmps15
  go_upto_region 2 with (fail)
  generalize ((w.alloc (.cells #[.slice none 0 0, .slice none 0 0] 25)).alloc (.cells #[.slice none 0 0, .slice none 0 0] 74)) = X at *
  go_upto_region 3 with (go_at_call 26; refine (put9 (w.heap.size + 1) b g X HX1.out HP.out).mono ?_; rintro e V ⟨rfl, hr⟩; have HR := hid hr; clear hr)
  obtain ⟨r, cap, cur, hw, hr, htk, hge, hbt⟩ := HR.out
  have HBV := hid (But.new HBB.out hbt (by omega))
  have HZV := hid ((hbt.block _ (lt_blk HM.out) (by omega)).trans HM.out)
  have HPV := hid (show Pn9 V r g from ⟨cur, hr, htk, (HBV.out.block _ (lt_blk HT.out)).trans HT.out⟩)
  have v0 : V.cell? ⟨w.heap.size + 1, 0, none⟩ = some (.slice (some ⟨r, 0, none⟩) 1 cap) := cell_of_row _ _ 0 _ _ _ hw
  have v1 : V.cell? ⟨w.heap.size + 1, 1, none⟩ = some (.slice none 0 0) := cell_of_row _ _ 1 _ _ _ hw
  have HWV := hid hw
  clear hw hr htk hge hbt HR
  have HB2 := hid (belowA V (.cells #[.slice (some ⟨r, 0, none⟩) 1 cap, .slice none 0 0] 25))
  have HX2 := hid (heap_alloc_new V (.cells #[.slice (some ⟨r, 0, none⟩) 1 cap, .slice none 0 0] 25))
  go_upto_region 4 with (fail)
  clear v0 v1
  have v1 : (V.alloc (.cells #[.slice (some ⟨r, 0, none⟩) 1 cap, .slice none 0 0] 25)).cell? ⟨w.heap.size + 1, 1, none⟩ = some (.slice none 0 0) := cell_of_row _ _ 1 _ _ _ ((HB2.out.block _ (lt_blk HWV.out)).trans HWV.out)
  have HZ2 := hid ((HB2.out.block _ (lt_blk HZV.out)).trans HZV.out)
  have HP2 := hid (HPV.out.low HB2.out)
  have HBW := hid (HBV.out.trans (HB2.out.mono HBV.out.size))
  generalize V.alloc (.cells #[.slice (some ⟨r, 0, none⟩) 1 cap, .slice none 0 0] 25) = U at *
  generalize V.heap.size = pb at *
  go_wp2_with fail
  refine wp_loop_rounds 1 ?_
  rw [rounds_succ]
  have u0 : U.cell? ⟨pb, 0, none⟩ = some (.slice (some ⟨r, 0, none⟩) 1 cap) := cell_of_row _ _ 0 _ _ _ HX2.out
  have u1 : U.cell? ⟨pb, 1, none⟩ = some (.slice none 0 0) := cell_of_row _ _ 1 _ _ _ HX2.out
  go_upto_region 11 with (fail)
  refine wp_region_lit ?_
  refine wpList_plain rfl fun K hK => ?_
  have HK := hid hK
  clear hK
  go_simp
  refine HK.out _ _ ?_
  clear HK
  try simp only [Act.put, List.setIfInBounds_toArray, List.set_cons_zero, List.set_cons_succ]
  refine wpList_store_row rfl 25 _ _ rfl w.heap.size #[.slice (some ⟨r, 0, none⟩) 1 cap, .slice none 0 0] rfl rfl 25 _ HZ2.out infoPn rfl (by kernel_rfl) ?_
  try simp only [Act.put, List.setIfInBounds_toArray, List.set_cons_zero, List.set_cons_succ]
  have HV := hid (setRow_heap U _ _ #[.slice (some ⟨r, 0, none⟩) 1 cap, .slice none 0 0] _ _ HZ2.out)
  have HBU := hid (below_row HBW.out (Nat.le_refl w.heap.size) #[.slice (some ⟨r, 0, none⟩) 1 cap, .slice none 0 0])
  have HPU := hid (show Pn9 (U.setRow w.heap.size #[.slice (some ⟨r, 0, none⟩) 1 cap, .slice none 0 0]) r g from (by
    obtain ⟨cur, h1, h2, h3⟩ := HP2.out
    refine ⟨cur, (setRow_other _ _ _ _ (fun e => ?_)).trans h1, h2, (setRow_other _ _ _ _ (fun e => ?_)).trans h3⟩
    · rw [e, HZ2.out] at h1; cases h1
    · rw [e, HZ2.out] at h3; cases h3))
  clear u0 u1 v1
  generalize U.setRow w.heap.size #[.slice (some ⟨r, 0, none⟩) 1 cap, .slice none 0 0] = T at *
  go_wp2_with fail
  exact ⟨rfl, .agg #[.slice (some ⟨r, 0, none⟩) 1 cap, .slice none 0 0], results_cell_row Tryz.results15 _ T w.heap.size 25 #[.slice (some ⟨r, 0, none⟩) 1 cap, .slice none 0 0] (0, 0) _ rfl HV.out Tryz.underlying25 rfl infoPn, r, cap, rfl, HPU.out, HBU.out⟩
end Go.Proofs.YtimmjikpcekffaaGreatDoor.L
namespace Go.Proofs.YtimmjikpcekffaaGreatDoor.L
open Go.RowKit Go.Shelf
set_option linter.unusedVariables false
set_option linter.unusedSimpArgs false
theorem res_plan {fn : Func} {p u : Tmp} (h : fn.results = #[.cell p 25, .tmp u]) (tmps : Array Value) (w : World) (g : Nat) (cs : Array Value) (hp : tmps.getD p undef = .pointer (some ⟨g, 0, none⟩)) (hg : w.heap[g]? = some (.cells cs 25 (0, 0))) (hs : cs.size = 2) : (results fn tmps).run Tryz.prog w = .ok (.tuple #[.agg cs, tmps.getD u undef]) w := by
  rw [results_cell_tmp h, hp]
  simp only [asAddr, Sem.run_pure, Result.andThen_ok, run_loadVar_row (P := Tryz.prog) w g 25 25 cs (0, 0) _ hg Tryz.underlying25 rfl (by rw [hs]; exact infoPn)]
set_option maxHeartbeats 4000000 in
set_option maxRecDepth 100000 in
theorem plan9 (gp k1 k2 : Nat) (w : World) (h : Fy w gp k1 k2) (hg : Gv w) :
    Calls Tryz.prog 8 #[.agg #[.slice (some ⟨gp, 0, none⟩) 4 4], .int .i64 2] w fun e w' => ∃ r g cap, e = .returned (.tuple #[.agg #[.slice (some ⟨r, 0, none⟩) 1 cap, .slice none 0 0], .int .i64 0]) ∧ Pn9 w' r g ∧ Below w.heap.size w w' := by
  have HB0 := hid (belowA w (.cells #[.slice (some ⟨gp, 0, none⟩) 4 4] 35))
  have HX0 := hid (heap_alloc_new w (.cells #[.slice (some ⟨gp, 0, none⟩) 4 4] 35))
  have HB1 := hid (belowA (w.alloc (.cells #[.slice (some ⟨gp, 0, none⟩) 4 4] 35)) (.cells #[.slice none 0 0, .slice none 0 0] 25))
  have HX1 := hid (heap_alloc_new (w.alloc (.cells #[.slice (some ⟨gp, 0, none⟩) 4 4] 35)) (.cells #[.slice none 0 0, .slice none 0 0] 25))
  have HS1 := hid (show (w.alloc (.cells #[.slice (some ⟨gp, 0, none⟩) 4 4] 35)).heap.size = w.heap.size + 1 by simp)
  rw [HS1.out] at HX1
  have HBB := hid (bchS HB0.out HB1.out)
  have HM := hid ((HB1.out.block _ (lt_blk HX0.out)).trans HX0.out)
  have HF := hid h
  have HG := hid hg
  clear h hg
  go_enter Tryz.func8, Tryz.ntmps8
  go_upto_region 1 with (fail)
  generalize ((w.alloc (.cells #[.slice (some ⟨gp, 0, none⟩) 4 4] 35)).alloc (.cells #[.slice none 0 0, .slice none 0 0] 25)) = X at *
  have x0 := cell_of_one HM.out
  go_upto_region 4 with (go_at_call 14; refine (refused9 gp k1 k2 X (HF.out.low HBB.out) (HG.out.low HBB.out)).mono ?_; rintro e V ⟨rfl, l⟩; have L1 := hid (HBB.out.trans (l.mono HBB.out.size)); have M1 := hid ((l.block _ (lt_blk HM.out)).trans HM.out); have Z1 := hid ((l.block _ (lt_blk HX1.out)).trans HX1.out); clear l)
  clear x0
  have x0 := cell_of_one M1.out
  refine wp_region_lit ?_
  refine wpList_plain rfl fun K hK => ?_
  have HK := hid hK
  clear hK
  go_simp
  refine HK.out _ _ ?_
  clear HK
  try simp only [Act.put, List.setIfInBounds_toArray, List.set_cons_zero, List.set_cons_succ]
  refine wpList_plain rfl fun K hK => ?_
  have HK := hid hK
  clear hK
  go_simp
  refine HK.out _ _ ?_
  clear HK
  try simp only [Act.put, List.setIfInBounds_toArray, List.set_cons_zero, List.set_cons_succ]
  clear x0
  refine wpList_step fun K hK => ?_
  rw [if_pos (by first | rfl | kernel_rfl)]
  go_simp
  refine (whole9 gp k1 k2 V (HF.out.low L1.out)).mono ?_
  rintro e V2 ⟨b, g, rfl, hp, ht, l⟩
  have L2 := hid (L1.out.trans (l.mono L1.out.size))
  have Z2 := hid ((l.block _ (lt_blk Z1.out)).trans Z1.out)
  have HP := hid hp
  have HT := hid ht
  clear l hp ht
  refine hK _ _ ?_
  clear hK K
  try simp only [Act.put, List.setIfInBounds_toArray, List.set_cons_zero, List.set_cons_succ]
  refine wpList_step fun K hK => ?_
  rw [if_pos (by first | rfl | kernel_rfl)]
  go_simp
  refine (written9 b g V2 HP.out HT.out).mono ?_
  rintro e V3 ⟨r, cap, rfl, hn, l⟩
  have L3 := hid (L2.out.trans (l.mono L2.out.size))
  have Z3 := hid ((l.block _ (lt_blk Z2.out)).trans Z2.out)
  have HN := hid hn
  clear l hn
  refine hK _ _ ?_
  clear hK K
  try simp only [Act.put, List.setIfInBounds_toArray, List.set_cons_zero, List.set_cons_succ]
  refine wpList_store_row rfl 25 _ _ rfl (w.heap.size + 1) #[.slice (some ⟨r, 0, none⟩) 1 cap, .slice none 0 0] rfl rfl 25 _ Z3.out infoPn rfl (by kernel_rfl) ?_
  try simp only [Act.put, List.setIfInBounds_toArray, List.set_cons_zero, List.set_cons_succ]
  have HV := hid (setRow_heap V3 _ _ #[.slice (some ⟨r, 0, none⟩) 1 cap, .slice none 0 0] _ _ Z3.out)
  have HBU := hid (below_row L3.out (Nat.le_succ w.heap.size) #[.slice (some ⟨r, 0, none⟩) 1 cap, .slice none 0 0])
  have HPU := hid (show Pn9 (V3.setRow (w.heap.size + 1) #[.slice (some ⟨r, 0, none⟩) 1 cap, .slice none 0 0]) r g from (by
    obtain ⟨cur, h1, h2, h3⟩ := HN.out
    refine ⟨cur, (setRow_other _ _ _ _ (fun e => ?_)).trans h1, h2, (setRow_other _ _ _ _ (fun e => ?_)).trans h3⟩
    · rw [e, Z3.out] at h1; cases h1
    · rw [e, Z3.out] at h3; cases h3))
  generalize V3.setRow (w.heap.size + 1) #[.slice (some ⟨r, 0, none⟩) 1 cap, .slice none 0 0] = T at *
  go_wp2_with fail
  exact ⟨rfl, .tuple #[.agg #[.slice (some ⟨r, 0, none⟩) 1 cap, .slice none 0 0], .int .i64 0], res_plan Tryz.results8 _ T (w.heap.size + 1) #[.slice (some ⟨r, 0, none⟩) 1 cap, .slice none 0 0] rfl HV.out rfl, r, g, cap, rfl, HPU.out, HBU.out⟩
end Go.Proofs.YtimmjikpcekffaaGreatDoor.L
namespace Go.Proofs.YtimmjikpcekffaaGreatDoor.L
open Go.RowKit Go.Shelf
set_option linter.unusedVariables false
set_option linter.unusedSimpArgs false
theorem label9 (w : World) : Calls Tryz.prog 7 #[.string ⟨#[122, 111, 110, 101]⟩] w fun e w' => e = .returned (.agg #[.int .i64 14, .string ⟨#[122, 111, 110, 101]⟩, .int .i64 2, .slice none 0 0]) ∧ Below w.heap.size w w' := by
  have HB0 := hid (belowA w (.cells #[.int .i64 14, .string ⟨#[122, 111, 110, 101]⟩, .int .i64 2, .slice none 0 0] 31))
  have HX0 := hid (heap_alloc_new w (.cells #[.int .i64 14, .string ⟨#[122, 111, 110, 101]⟩, .int .i64 2, .slice none 0 0] 31))
  go_enter Tryz.func7, Tryz.ntmps7
  go_wp2_with fail
  generalize w.alloc (.cells #[.int .i64 14, .string ⟨#[122, 111, 110, 101]⟩, .int .i64 2, .slice none 0 0] 31) = X at *
  exact ⟨rfl, .agg #[.int .i64 14, .string ⟨#[122, 111, 110, 101]⟩, .int .i64 2, .slice none 0 0], results_cell_row Tryz.results7 _ X w.heap.size 31 #[.int .i64 14, .string ⟨#[122, 111, 110, 101]⟩, .int .i64 2, .slice none 0 0] (0, 0) _ rfl HX0.out Tryz.underlying31 rfl (by kernel_rfl), rfl, HB0.out⟩
theorem num9 (n : Int) (w : World) : Calls Tryz.prog 9 #[.int .i64 n] w fun e w' => e = .returned (.int .i64 n) ∧ w' = w := by
  go_enter Tryz.func9, Tryz.ntmps9
  go_wp2_with fail
  go_ret
  exact ⟨rfl, rfl⟩
theorem tower9 (w1 : World) : Fy ((((w1.alloc (.cells #[.int .i64 0, .int .i64 1] 3)).alloc (.cells #[.int .i64 2] 3)).alloc (.cells #[.int .i64 14, .string ⟨#[122, 111, 110, 101]⟩, .int .i64 2, .slice none 0 0, .int .i64 11, .string ⟨#[97]⟩, .int .i64 0, .slice none 0 0, .int .i64 6, .string ⟨#[]⟩, .int .i64 1, .slice (some ⟨w1.heap.size, 0, none⟩) 2 2, .int .i64 3, .string ⟨#[]⟩, .int .i64 0, .slice (some ⟨w1.heap.size + 1, 0, none⟩) 1 1] 31)).alloc (.cells #[.slice (some ⟨w1.heap.size + 1 + 1, 0, none⟩) 4 4] 35)) (w1.heap.size + 1 + 1) w1.heap.size (w1.heap.size + 1) ∧ ((((w1.alloc (.cells #[.int .i64 0, .int .i64 1] 3)).alloc (.cells #[.int .i64 2] 3)).alloc (.cells #[.int .i64 14, .string ⟨#[122, 111, 110, 101]⟩, .int .i64 2, .slice none 0 0, .int .i64 11, .string ⟨#[97]⟩, .int .i64 0, .slice none 0 0, .int .i64 6, .string ⟨#[]⟩, .int .i64 1, .slice (some ⟨w1.heap.size, 0, none⟩) 2 2, .int .i64 3, .string ⟨#[]⟩, .int .i64 0, .slice (some ⟨w1.heap.size + 1, 0, none⟩) 1 1] 31)).alloc (.cells #[.slice (some ⟨w1.heap.size + 1 + 1, 0, none⟩) 4 4] 35)).heap[w1.heap.size + 1 + 1 + 1]? = some (.cells #[.slice (some ⟨w1.heap.size + 1 + 1, 0, none⟩) 4 4] 35 (0, 0)) ∧ Below w1.heap.size w1 ((((w1.alloc (.cells #[.int .i64 0, .int .i64 1] 3)).alloc (.cells #[.int .i64 2] 3)).alloc (.cells #[.int .i64 14, .string ⟨#[122, 111, 110, 101]⟩, .int .i64 2, .slice none 0 0, .int .i64 11, .string ⟨#[97]⟩, .int .i64 0, .slice none 0 0, .int .i64 6, .string ⟨#[]⟩, .int .i64 1, .slice (some ⟨w1.heap.size, 0, none⟩) 2 2, .int .i64 3, .string ⟨#[]⟩, .int .i64 0, .slice (some ⟨w1.heap.size + 1, 0, none⟩) 1 1] 31)).alloc (.cells #[.slice (some ⟨w1.heap.size + 1 + 1, 0, none⟩) 4 4] 35)) := by
  have b1 := belowA w1 (.cells #[.int .i64 0, .int .i64 1] 3)
  have n1 := heap_alloc_new w1 (.cells #[.int .i64 0, .int .i64 1] 3)
  have s1 : (w1.alloc (.cells #[.int .i64 0, .int .i64 1] 3)).heap.size = w1.heap.size + 1 := by simp
  generalize w1.alloc (.cells #[.int .i64 0, .int .i64 1] 3) = A1 at *
  have b2 := belowA A1 (.cells #[.int .i64 2] 3)
  have n2 := heap_alloc_new A1 (.cells #[.int .i64 2] 3)
  have s2 : (A1.alloc (.cells #[.int .i64 2] 3)).heap.size = A1.heap.size + 1 := by simp
  rw [s1] at n2 s2
  generalize A1.alloc (.cells #[.int .i64 2] 3) = A2 at *
  have b3 := belowA A2 (.cells #[.int .i64 14, .string ⟨#[122, 111, 110, 101]⟩, .int .i64 2, .slice none 0 0, .int .i64 11, .string ⟨#[97]⟩, .int .i64 0, .slice none 0 0, .int .i64 6, .string ⟨#[]⟩, .int .i64 1, .slice (some ⟨w1.heap.size, 0, none⟩) 2 2, .int .i64 3, .string ⟨#[]⟩, .int .i64 0, .slice (some ⟨w1.heap.size + 1, 0, none⟩) 1 1] 31)
  have n3 := heap_alloc_new A2 (.cells #[.int .i64 14, .string ⟨#[122, 111, 110, 101]⟩, .int .i64 2, .slice none 0 0, .int .i64 11, .string ⟨#[97]⟩, .int .i64 0, .slice none 0 0, .int .i64 6, .string ⟨#[]⟩, .int .i64 1, .slice (some ⟨w1.heap.size, 0, none⟩) 2 2, .int .i64 3, .string ⟨#[]⟩, .int .i64 0, .slice (some ⟨w1.heap.size + 1, 0, none⟩) 1 1] 31)
  have s3 : (A2.alloc (.cells #[.int .i64 14, .string ⟨#[122, 111, 110, 101]⟩, .int .i64 2, .slice none 0 0, .int .i64 11, .string ⟨#[97]⟩, .int .i64 0, .slice none 0 0, .int .i64 6, .string ⟨#[]⟩, .int .i64 1, .slice (some ⟨w1.heap.size, 0, none⟩) 2 2, .int .i64 3, .string ⟨#[]⟩, .int .i64 0, .slice (some ⟨w1.heap.size + 1, 0, none⟩) 1 1] 31)).heap.size = A2.heap.size + 1 := by simp
  rw [s2] at n3 s3
  generalize A2.alloc (.cells #[.int .i64 14, .string ⟨#[122, 111, 110, 101]⟩, .int .i64 2, .slice none 0 0, .int .i64 11, .string ⟨#[97]⟩, .int .i64 0, .slice none 0 0, .int .i64 6, .string ⟨#[]⟩, .int .i64 1, .slice (some ⟨w1.heap.size, 0, none⟩) 2 2, .int .i64 3, .string ⟨#[]⟩, .int .i64 0, .slice (some ⟨w1.heap.size + 1, 0, none⟩) 1 1] 31) = A3 at *
  have b4 := belowA A3 (.cells #[.slice (some ⟨w1.heap.size + 1 + 1, 0, none⟩) 4 4] 35)
  have n4 := heap_alloc_new A3 (.cells #[.slice (some ⟨w1.heap.size + 1 + 1, 0, none⟩) 4 4] 35)
  rw [s3] at n4
  generalize A3.alloc (.cells #[.slice (some ⟨w1.heap.size + 1 + 1, 0, none⟩) 4 4] 35) = A4 at *
  have c3 := (bchS b3 b4)
  have c2 := (bchS b2 c3)
  exact ⟨⟨(c2.block _ (lt_blk n1)).trans n1, (c3.block _ (lt_blk n2)).trans n2, (b4.block _ (lt_blk n3)).trans n3⟩, n4, bchS b1 c2⟩
theorem pn_cell {W : World} {r g : Nat} (h : Pn9 W r g) (i : Nat) (v : Value) (hv : ([.int .i64 5, .bool true, .int .i64 1, .int .i64 2, .int .i64 2, .string ⟨#[122, 111, 110, 101]⟩, .int .i64 0, .int .i64 0, .int .i64 0, .slice (some ⟨g, 0, none⟩) 1 1, .slice none 0 0, .int .i64 0, .int .i64 0, .string ⟨#[]⟩, .int .i64 0, .int .i64 0, .string ⟨#[]⟩, .int .i64 0, .slice none 0 0] : List Value)[i]? = some v) : W.cell? ⟨r, i, none⟩ = some v := by
  obtain ⟨cur, h1, h2, h3⟩ := h
  rw [cell_of_row _ _ _ _ _ _ h1]
  have hi : i < 19 := by
    rcases List.getElem?_eq_some_iff.1 hv with ⟨h4, _⟩
    exact h4
  have h5 : (cur.toList.take 19)[i]? = some v := by rw [h2]; exact hv
  rw [List.getElem?_take, if_pos hi] at h5
  simpa using h5
theorem lit_get {g j : Nat} {v : Value} (h : ([.int .i64 1, .int .i64 2, .int .i64 2, .string ⟨#[122, 111, 110, 101]⟩, .int .i64 0, .int .i64 0, .int .i64 0, .slice (some ⟨g, 0, none⟩) 1 1, .slice none 0 0, .int .i64 0, .int .i64 0, .string ⟨#[]⟩, .int .i64 0, .int .i64 0, .string ⟨#[]⟩, .int .i64 0] : List Value)[j]? = some v) : ([.int .i64 5, .bool true, .int .i64 1, .int .i64 2, .int .i64 2, .string ⟨#[122, 111, 110, 101]⟩, .int .i64 0, .int .i64 0, .int .i64 0, .slice (some ⟨g, 0, none⟩) 1 1, .slice none 0 0, .int .i64 0, .int .i64 0, .string ⟨#[]⟩, .int .i64 0, .int .i64 0, .string ⟨#[]⟩, .int .i64 0, .slice none 0 0] : List Value)[2 + j]? = some v := by
  have h2 := mid_get (pre := [.int .i64 5, .bool true]) (post := [.slice none 0 0]) h
  rw [List.getElem?_toArray] at h2
  exact h2
/-- The fixed plan. -/
def pp9 : Pp := ⟨5, true, ⟨1, 2, 2, ⟨#[122, 111, 110, 101]⟩, 0, 0, 0, [⟨#[97]⟩], [], 0, 0, ⟨#[]⟩, 0, 0, ⟨#[]⟩, 0⟩, []⟩
theorem pq9 {W : World} {r g : Nat} (h : Pn9 W r g) : PQ W (some ⟨r, 0, none⟩) [pp9] := by
  obtain ⟨cur, h1, h2, h3⟩ := h
  refine Or.inr ⟨r, 0, rfl, lt_blk h1, fun j hj => ?_⟩
  match j, hj with
  | 0, _ =>
    refine ⟨some ⟨g, 0, none⟩, 1, none, 0, none, 0, fun i v hv => ?_, Or.inr ⟨g, 0, rfl, lt_blk h3, fun j hj => ?_⟩, Or.inl rfl, Or.inl rfl⟩
    · rw [cell_of_row _ _ _ _ _ _ h1]
      have hi : i < 19 := by
        rcases List.getElem?_eq_some_iff.1 hv with ⟨h4, _⟩
        exact h4
      have h5 : (cur.toList.take 19)[i]? = some v := by rw [h2]; exact hv
      rw [List.getElem?_take, if_pos hi] at h5
      show cur[0 + 0 * 19 + i]? = some v
      rw [show 0 + 0 * 19 + i = i by omega]
      simpa using h5
    · match j, hj with
      | 0, _ => exact cell_of_row _ _ 0 _ _ _ h3
theorem gd9 : GdP [pp9] := ⟨by decide, fun j hj => by
  match j, hj with
  | 0, _ =>
    refine ⟨by decide, by decide, by decide, by decide, by decide, by decide, fun k => ?_⟩
    match k with
    | 0 => exact (by decide : (⟨#[97]⟩ : ByteArray).size ≤ maxLen)
    | k + 1 => exact (by decide : ByteArray.empty.size ≤ maxLen)⟩
theorem va9 : VaP [pp9] [] := by
  refine ⟨by decide, Or.inl ⟨fun j hj => absurd hj (Nat.not_lt_zero _), ⟨fun j hj => ?_, by decide⟩⟩⟩
  match j, hj with
  | 0, _ =>
    refine ⟨by decide, rfl, ?_⟩
    show PartP 2 0 5 true 1 2 2 ⟨#[122, 111, 110, 101]⟩ 0 0 0 none 1 0 none 0 0 0 0 ⟨#[]⟩ 0 0 ⟨#[]⟩ 0 0 [⟨#[97]⟩] []
    unfold PartP
    rw [if_neg (by decide), if_neg (by decide), if_neg (by decide), if_neg (by decide), if_pos (by decide)]
    refine ⟨by decide, ?_⟩
    unfold LitP
    rw [if_pos (by decide)]
    unfold InP
    rw [if_pos (by decide)]
    refine ⟨fun k h1 h2 => ?_, ?_, rfl, rfl, rfl, ⟨rfl, rfl, rfl, rfl⟩, rfl, rfl, ⟨rfl, rfl, rfl, rfl⟩, rfl, rfl, rfl⟩
    · exact absurd h2 (by simp; omega)
    · rintro ⟨k, h1, h2⟩
      match k, h1 with
      | 0, _ => exact absurd h2 (by decide)
theorem valid16_9 (r g cap : Nat) (w : World) (h : Pn9 w r g) : Calls Tryz.prog 6 #[.agg #[.slice (some ⟨r, 0, none⟩) 1 cap, .slice none 0 0]] w fun e w' => e = .returned (.bool true) ∧ Below w.heap.size w w' := by
  refine (nvalid_any (some ⟨r, 0, none⟩) none [pp9] [] 1 0 cap 0 rfl rfl w (pq9 h) (Or.inl rfl) (by decide) (by decide) gd9 (fun j hj => absurd hj (Nat.not_lt_zero _))).mono ?_
  rintro e w' ⟨⟨b, rfl, hb⟩, l⟩
  rw [hb.2 va9]
  exact ⟨rfl, l⟩
set_option maxHeartbeats 4000000 in
set_option maxRecDepth 100000 in
theorem awake_any (w : World) (hg : Gv w) : Calls Tryz.prog 4 #[] w fun e w' => e = .returned (.bool true) ∧ Below w.heap.size w w' := by
  have HG := hid hg
  clear hg
  go_enter Tryz.func4, Tryz.ntmps4
  go_upto_region 2 with (go_at_call 7; refine (label9 w).mono ?_; rintro e w1 ⟨rfl, l1⟩; have L1 := hid l1; clear l1)
  obtain ⟨hf, ht, hb⟩ := tower9 w1
  have HF := hid hf
  have HT := hid ht
  have HB := hid (L1.out.trans (hb.mono L1.out.size))
  clear hf ht hb
  generalize (((w1.alloc (.cells #[.int .i64 0, .int .i64 1] 3)).alloc (.cells #[.int .i64 2] 3)).alloc (.cells #[.int .i64 14, .string ⟨#[122, 111, 110, 101]⟩, .int .i64 2, .slice none 0 0, .int .i64 11, .string ⟨#[97]⟩, .int .i64 0, .slice none 0 0, .int .i64 6, .string ⟨#[]⟩, .int .i64 1, .slice (some ⟨w1.heap.size, 0, none⟩) 2 2, .int .i64 3, .string ⟨#[]⟩, .int .i64 0, .slice (some ⟨w1.heap.size + 1, 0, none⟩) 1 1] 31)).alloc (.cells #[.slice (some ⟨w1.heap.size + 1 + 1, 0, none⟩) 4 4] 35) = X at *
  have x0 := cell_of_one HT.out
  go_upto_region 3 with (go_at_call 8; refine (plan9 _ _ _ X HF.out (HG.out.low HB.out)).mono ?_; rintro e V ⟨r, g, cap, rfl, hn, l⟩; have HN := hid hn; have L2 := hid (HB.out.trans (l.mono HB.out.size)); clear l hn)
  have HB3 := hid (belowA V (.cells #[.slice (some ⟨r, 0, none⟩) 1 cap, .slice none 0 0] 25))
  have HX3 := hid (heap_alloc_new V (.cells #[.slice (some ⟨r, 0, none⟩) 1 cap, .slice none 0 0] 25))
  have HN3 := hid (HN.out.low HB3.out)
  have L3 := hid (L2.out.trans (HB3.out.mono L2.out.size))
  clear x0
  generalize V.alloc (.cells #[.slice (some ⟨r, 0, none⟩) 1 cap, .slice none 0 0] 25) = U at *
  generalize V.heap.size = pb at *
  have u0 : U.cell? ⟨pb, 0, none⟩ = some (.slice (some ⟨r, 0, none⟩) 1 cap) := cell_of_row _ _ 0 _ _ _ HX3.out
  have u1 : U.cell? ⟨pb, 1, none⟩ = some (.slice none 0 0) := cell_of_row _ _ 1 _ _ _ HX3.out
  have r0 := pn_cell HN3.out 0 _ rfl
  have r1 := pn_cell HN3.out 1 _ rfl
  go_upto_region 5 with (go_at_call 9; refine (num9 0 _).mono ?_; rintro e w9 ⟨rfl, hw⟩; have hw2 := hw.symm; clear hw; subst hw2)
  refine wp_region_lit ?_
  refine wpList_plain rfl fun K hK => ?_
  have HK := hid hK
  clear hK
  go_simp
  refine HK.out _ _ ?_
  clear HK
  try simp only [Act.put, List.setIfInBounds_toArray, List.set_cons_zero, List.set_cons_succ]
  refine wpList_plain rfl fun K hK => ?_
  have HK := hid hK
  clear hK
  go_simp
  refine HK.out _ _ ?_
  clear HK
  try simp only [Act.put, List.setIfInBounds_toArray, List.set_cons_zero, List.set_cons_succ]
  refine wpList_plain rfl fun K hK => ?_
  have HK := hid hK
  clear hK
  go_simp
  refine HK.out _ _ ?_
  clear HK
  try simp only [Act.put, List.setIfInBounds_toArray, List.set_cons_zero, List.set_cons_succ]
  refine wpList_plain rfl fun K hK => ?_
  have HK := hid hK
  clear hK
  go_simp
  refine HK.out _ _ ?_
  clear HK
  try simp only [Act.put, List.setIfInBounds_toArray, List.set_cons_zero, List.set_cons_succ]
  refine wpList_load_mid rfl 49 _ rfl r 2 rfl [.int .i64 1, .int .i64 2, .int .i64 2, .string ⟨#[122, 111, 110, 101]⟩, .int .i64 0, .int .i64 0, .int .i64 0, .slice (some ⟨g, 0, none⟩) 1 1, .slice none 0 0, .int .i64 0, .int .i64 0, .string ⟨#[]⟩, .int .i64 0, .int .i64 0, .string ⟨#[]⟩, .int .i64 0] _ (fun j v h => pn_cell HN3.out _ _ (lit_get h)) Tryz.underlying49 rfl infoLt ?_
  try simp only [Act.put, List.setIfInBounds_toArray, List.set_cons_zero, List.set_cons_succ]
  refine wpList_plain rfl fun K hK => ?_
  have HK := hid hK
  clear hK
  go_simp
  refine HK.out _ _ ?_
  clear HK
  try simp only [Act.put, List.setIfInBounds_toArray, List.set_cons_zero, List.set_cons_succ]
  refine wpList_store_row rfl 49 _ _ rfl U.heap.size #[.int .i64 1, .int .i64 2, .int .i64 2, .string ⟨#[122, 111, 110, 101]⟩, .int .i64 0, .int .i64 0, .int .i64 0, .slice (some ⟨g, 0, none⟩) 1 1, .slice none 0 0, .int .i64 0, .int .i64 0, .string ⟨#[]⟩, .int .i64 0, .int .i64 0, .string ⟨#[]⟩, .int .i64 0] rfl rfl 49 _ (heap_alloc_new U _) infoLt rfl (by kernel_rfl) ?_
  try simp only [Act.put, List.setIfInBounds_toArray, List.set_cons_zero, List.set_cons_succ]
  refine over_row (F := fun X => wpList _ _ _ _ _ X) ?_
  intro T nb hx
  have HXT := hid hx
  have HNT := hid (HN3.out.low nb)
  have L4 := hid (L3.out.trans (nb.mono L3.out.size))
  have HX4 := hid ((nb.block _ (lt_blk HX3.out)).trans HX3.out)
  clear u0 u1 r0 r1 nb hx
  generalize U.heap.size = lb at *
  have u0 : T.cell? ⟨pb, 0, none⟩ = some (.slice (some ⟨r, 0, none⟩) 1 cap) := cell_of_row _ _ 0 _ _ _ HX4.out
  have u1 : T.cell? ⟨pb, 1, none⟩ = some (.slice none 0 0) := cell_of_row _ _ 1 _ _ _ HX4.out
  have l0 : T.cell? ⟨lb, 0, none⟩ = some (.int .i64 1) := cell_of_row _ _ 0 _ _ _ HXT.out
  have l3 : T.cell? ⟨lb, 3, none⟩ = some (.string ⟨#[122, 111, 110, 101]⟩) := cell_of_row _ _ 3 _ _ _ HXT.out
  have l7 : T.cell? ⟨lb, 7, none⟩ = some (.slice (some ⟨g, 0, none⟩) 1 1) := cell_of_row _ _ 7 _ _ _ HXT.out
  have g0 : T.cell? ⟨g, 0, none⟩ = some (.string ⟨#[97]⟩) := (by obtain ⟨cur, h1, h2, h3⟩ := HNT.out; exact cell_of_row _ _ 0 _ _ _ h3)
  go_wp2_with (go_at_call 6; refine (valid16_9 r g cap T HNT.out).mono ?_; rintro e T2 ⟨rfl, l⟩; have L5 := hid (L4.out.trans (l.mono L4.out.size)); clear l)
  go_ret
  exact ⟨rfl, L5.out⟩
end Go.Proofs.YtimmjikpcekffaaGreatDoor.L
