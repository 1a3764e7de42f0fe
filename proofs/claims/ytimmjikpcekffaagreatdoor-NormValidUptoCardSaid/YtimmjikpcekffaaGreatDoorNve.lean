import Derived.Test.YtimmjikpcekffaaGreatDoorNvc
import Derived.Laws.Rows
namespace Go.Proofs.YtimmjikpcekffaaGreatDoor.L
open Go.RowKit
set_option linter.unusedVariables false
set_option linter.unusedSimpArgs false
theorem infoPl : (Tryz.prog.info? 61).map (·.size) = some 2 := by kernel_rfl
theorem over_row {F : World → Prop} {w : World} {Z cs : Array Value} {t : TypeId} (h : ∀ X, Below w.heap.size w X → X.heap[w.heap.size]? = some (.cells cs t (0, 0)) → F X) : F ((w.alloc (.cells Z t)).setRow w.heap.size cs) :=
  h _ (new_row w Z cs t).1 (setRow_heap _ _ Z cs _ _ (heap_alloc_new w _))
set_option maxHeartbeats 4000000 in
set_option maxRecDepth 100000 in
theorem insel_any (w : World) : Calls Tryz.prog 20 #[] w fun e w' => e = .returned (.agg #[.int .i64 3, .int .i64 0]) ∧ Below w.heap.size w w' := by
  go_enter Tryz.func20, Tryz.ntmps20
  go_upto_region 1 with (fail)
  refine wp_region_lit ?_
  refine wpList_plain rfl fun K hK => ?_
  have HK := hid hK
  clear hK
  go_simp
  refine HK.out _ _ ?_
  clear HK
  try simp only [Act.put, List.setIfInBounds_toArray, List.set_cons_zero, List.set_cons_succ]
  refine wpList_store_row rfl 61 _ _ rfl w.heap.size #[.int .i64 3, .int .i64 0] rfl rfl 61 _ (heap_alloc_new w _) infoPl rfl (by kernel_rfl) ?_
  try simp only [Act.put, List.setIfInBounds_toArray, List.set_cons_zero, List.set_cons_succ]
  refine over_row (F := fun X => wpList _ _ _ _ _ X) ?_
  intro X nb hx
  have NB := hid nb
  have HX := hid hx
  clear nb hx
  go_wp2_with fail
  exact ⟨rfl, .agg #[.int .i64 3, .int .i64 0], results_cell_row Tryz.results20 _ X w.heap.size 61 #[.int .i64 3, .int .i64 0] (0, 0) _ rfl HX.out Tryz.underlying61 rfl infoPl, rfl, NB.out⟩
set_option maxHeartbeats 4000000 in
set_option maxRecDepth 100000 in
theorem inmain_any (n : Int) (w : World) : Calls Tryz.prog 22 #[.int .i64 n] w fun e w' => e = .returned (.agg #[.int .i64 2, .int .i64 n]) ∧ Below w.heap.size w w' := by
  go_enter Tryz.func22, Tryz.ntmps22
  go_upto_region 1 with (fail)
  refine wp_region_lit ?_
  refine wpList_plain rfl fun K hK => ?_
  have HK := hid hK
  clear hK
  go_simp
  refine HK.out _ _ ?_
  clear HK
  try simp only [Act.put, List.setIfInBounds_toArray, List.set_cons_zero, List.set_cons_succ]
  refine wpList_plain rfl fun K hK => ?_
  have HK := hid hK
  clear hK
  go_simp
  refine HK.out _ _ ?_
  clear HK
  try simp only [Act.put, List.setIfInBounds_toArray, List.set_cons_zero, List.set_cons_succ]
  refine wpList_store_row rfl 61 _ _ rfl w.heap.size #[.int .i64 2, .int .i64 n] rfl rfl 61 _ (heap_alloc_new w _) infoPl rfl (by kernel_rfl) ?_
  try simp only [Act.put, List.setIfInBounds_toArray, List.set_cons_zero, List.set_cons_succ]
  refine over_row (F := fun X => wpList _ _ _ _ _ X) ?_
  intro X nb hx
  have NB := hid nb
  have HX := hid hx
  clear nb hx
  go_wp2_with fail
  exact ⟨rfl, .agg #[.int .i64 2, .int .i64 n], results_cell_row Tryz.results22 _ X w.heap.size 61 #[.int .i64 2, .int .i64 n] (0, 0) _ rfl HX.out Tryz.underlying61 rfl infoPl, rfl, NB.out⟩
/-- A plan, its measure left aside, valid for nodes, or for pods. -/
def NoP (M : List Pp) (S : List (List Pp)) : Prop := (∀ j, j < S.length → TkP 3 0 (S.getD j [])) ∧ TkP 2 (S.length : Nat) M
def PoP (M : List Pp) (S : List (List Pp)) : Prop := S.length = 0 ∧ TkP 3 0 M
def GdS' (S : List (List Pp)) : Prop := ∀ j, j < S.length → GdP (S.getD j [])
set_option maxHeartbeats 16000000 in
set_option maxRecDepth 100000 in
theorem fnodes_any (ma sa : Option Addr) (M : List Pp) (S : List (List Pp)) (mn sn mc sc : Nat) (hmn : mn = M.length) (hsn : sn = S.length) (w : World) (hM : PQ w ma M) (hS : PS w sa S) (hl : sn ≤ 4611686018427387904) (gM : GdP M) (gS : GdS' S) :
    Calls Tryz.prog 12 #[.agg #[.slice ma mn mc, .slice sa sn sc]] w fun e w' => (∃ b, e = .returned (.bool b) ∧ (b = true ↔ NoP M S)) ∧ Below w.heap.size w w' := by
  have LX : Below w.heap.size w (w.alloc (.cells #[.slice ma mn mc, .slice sa sn sc] 25)) := belowA w _
  have X0 : Bs (w.alloc (.cells #[.slice ma mn mc, .slice sa sn sc] 25)) w.heap.size [.slice ma mn mc, .slice sa sn sc] := by simpa using bs_new w #[.slice ma mn mc, .slice sa sn sc] 25
  have HLX := hid LX
  have HX0 := hid X0
  have HN := hid hsn
  have HMN := hid hmn
  have HM := hid (hM.low LX)
  have HS := hid (hS.low LX)
  have HGM := hid gM
  have HGS := hid gS
  have HIS := hid insel_any
  have HIM := hid inmain_any
  clear LX X0 hmn hsn hM hS gM gS
  go_enter Tryz.func12, Tryz.ntmps12
  go_wp2_with fail
  generalize w.alloc (.cells #[.slice ma mn mc, .slice sa sn sc] 25) = x0 at *
  have HWS := hid (show w.heap.size < x0.heap.size from HX0.out.1)
  go_loopw [8] (fun i wr => ∃ k : Nat, k ≤ sn ∧ i = .int .i64 k ∧ Hid (∀ j, j < k → TkP 3 0 (S.getD j [])) ∧ Hid (Below x0.heap.size x0 wr)) (fun i _ => sn - (intOf i).toNat)
  case atStart => exact ⟨0, Nat.zero_le _, rfl, hid (fun j hj => by omega), hid (Below.refl _ _)⟩
  case round =>
    obtain ⟨k, hk, rfl, HU, HBW⟩ := hrel
    by_cases hlt : k < sn
    · rcases HS.out.low HBW.out with h0 | ⟨b2, o2, rfl, hb2, hc2⟩
      · have := HN.out; omega
      obtain ⟨la, lc, c, r⟩ := hc2 k (by rw [← HN.out]; exact hlt)
      obtain ⟨ln, hln⟩ : ∃ ln, ln = (S.getD k []).length := ⟨_, rfl⟩
      have HR := hid r
      have HLN := hid hln
      rw [← hln] at c
      have g1 : (k : Int) < (sn : Int) := by omega
      have g0 : (0 : Int) ≤ (k : Int) := by omega
      clear hc2 r hln
      go_wp2_with fail
      refine (HIS.out wr).mono ?_
      rintro e x1 ⟨rfl, hb1⟩
      have HB1 := hid hb1
      clear hb1
      go_wp2_with fail
      refine (ptakes_any 3 0 la (S.getD k []) ln lc HLN.out x1 (HR.out.low HB1.out) (HGS.out k (by rw [← HN.out]; exact hlt))).mono ?_
      rintro e x2 ⟨⟨b, rfl, hbb⟩, hb2'⟩
      have HB2 := hid (show Below x0.heap.size x0 x2 from (HBW.out.trans (HB1.out.mono HBW.out.size)).trans (hb2'.mono (Nat.le_trans HBW.out.size HB1.out.size)))
      have HBB := hid hbb
      clear hbb hb2'
      cases b
      · go_wp2_with fail
        go_ret
        refine ⟨⟨_, rfl, ?_⟩, HLX.out.trans (HB2.out.mono HLX.out.size)⟩
        constructor
        · intro h; cases h
        · intro h
          exact absurd (HBB.out.2 (h.1 k (by rw [← HN.out]; exact hlt))) (by first | decide | simp)
      · go_wp2_with fail
        refine ⟨⟨k + 1, by omega, by go_num, hid (fun j hj => ?_), HB2⟩, by simp [intOf]; omega⟩
        by_cases e : j = k
        · rw [e]; exact HBB.out.1 (by first | rfl | trivial)
        · exact HU.out j (by omega)
    · obtain rfl : k = sn := by omega
      have XW := HX0.out.low HBW.out
      have HXW := hid XW
      have c0 := XW.2 0 _ rfl
      have c1 := XW.2 1 _ rfl
      clear XW
      generalize hbw : w.heap.size = bp at *
      have HBP := hid hbw
      clear hbw
      go_wp2_with fail
      go_region_held3 (fun Y => Y.cell? ⟨bp, 0, none⟩ = some (.slice ma mn mc) ∧ Y.cell? ⟨bp, 1, none⟩ = some (.slice sa k sc))
        (first | exact ⟨c0, c1⟩ | exact T2 | exact T3)
        (first
          | (go_at_call 22; refine (HIM.out _ _).mono ?_
             rintro e x1 ⟨rfl, hb1⟩
             have L2 := hid (show Below wr.heap.size wr x1 from ⟨hb1.os, hb1.tape, hb1.output, hb1.size, hb1.block⟩)
             have T2 := And.intro ((HXW.out.low L2.out).2 0 _ rfl) ((HXW.out.low L2.out).2 1 _ rfl)
             clear hb1)
          | (go_at_call 21; refine (ptakes_any 2 _ ma M mn mc HMN.out _ (HM.out.low (show Below x0.heap.size x0 _ from HBW.out.trans ((show Below wr.heap.size wr _ from ⟨L2.out.os, L2.out.tape, L2.out.output, L2.out.size, L2.out.block⟩).mono HBW.out.size))) HGM.out).mono ?_
             rintro e x2 ⟨⟨bb, rfl, hbb⟩, hb2⟩
             have L3 := hid (show Below wr.heap.size wr x2 from L2.out.trans (show Below wr.heap.size x1 x2 from ⟨hb2.os, hb2.tape, hb2.output, hb2.size, fun q hq => hb2.block q (Nat.lt_of_lt_of_le hq L2.out.size)⟩))
             have T3 := And.intro ((HXW.out.low L3.out).2 0 _ rfl) ((HXW.out.low L3.out).2 1 _ rfl)
             have HBB := hid hbb
             clear hbb hb2))
      go_wp2_with fail
      go_ret
      have hf : Below x0.heap.size x0 x2 := HBW.out.trans (L3.out.mono HBW.out.size)
      refine ⟨⟨_, rfl, ?_⟩, by rw [HBP.out]; exact HLX.out.trans (hf.mono (by have h1 := HLX.out.size; have h2 := HBP.out; omega))⟩
      rw [HBB.out]
      unfold NoP
      rw [← HN.out]
      exact ⟨fun h => ⟨HU.out, h⟩, fun h => h.2⟩
set_option maxHeartbeats 16000000 in
set_option maxRecDepth 100000 in
theorem fpods_any (ma sa : Option Addr) (M : List Pp) (S : List (List Pp)) (mn sn mc sc : Nat) (hmn : mn = M.length) (hsn : sn = S.length) (w : World) (hM : PQ w ma M) (gM : GdP M) :
    Calls Tryz.prog 13 #[.agg #[.slice ma mn mc, .slice sa sn sc]] w fun e w' => (∃ b, e = .returned (.bool b) ∧ (b = true ↔ PoP M S)) ∧ Below w.heap.size w w' := by
  have LX : Below w.heap.size w (w.alloc (.cells #[.slice ma mn mc, .slice sa sn sc] 25)) := belowA w _
  have X0 : Bs (w.alloc (.cells #[.slice ma mn mc, .slice sa sn sc] 25)) w.heap.size [.slice ma mn mc, .slice sa sn sc] := by simpa using bs_new w #[.slice ma mn mc, .slice sa sn sc] 25
  have HLX := hid LX
  have HX0 := hid X0
  have HN := hid hsn
  have HMN := hid hmn
  have HM := hid (hM.low LX)
  have HGM := hid gM
  have HIS := hid insel_any
  clear LX X0 hmn hsn hM gM
  cases h1 : ((sn : Int) == 0)
  · have HH := hid h1
    go_enter Tryz.func13, Tryz.ntmps13
    go_upto_region 1 with (fail)
    generalize w.alloc (.cells #[.slice ma mn mc, .slice sa sn sc] 25) = x0 at *
    have c0 := HX0.out.2 0 _ rfl
    have c1 := HX0.out.2 1 _ rfl
    generalize hbw : w.heap.size = bp at *
    have HBP := hid hbw
    clear hbw
    go_quiet (fail)
    go_wp2_with fail
    go_ret
    refine ⟨⟨_, rfl, ?_⟩, by rw [HBP.out]; exact below_drewN HLX.out nq⟩
    constructor
    · intro h; cases h
    · intro h
      have h2 := h.1
      rw [← HN.out] at h2
      have h3 := HH.out
      rw [h2] at h3
      exact absurd h3 (by decide)
  · have HH := hid h1
    go_enter Tryz.func13, Tryz.ntmps13
    go_upto_region 1 with (fail)
    generalize w.alloc (.cells #[.slice ma mn mc, .slice sa sn sc] 25) = x0 at *
    have c0 := HX0.out.2 0 _ rfl
    have c1 := HX0.out.2 1 _ rfl
    generalize hbw : w.heap.size = bp at *
    have HBP := hid hbw
    clear hbw
    go_region_held3 (fun Y => Y.cell? ⟨bp, 0, none⟩ = some (.slice ma mn mc) ∧ Y.cell? ⟨bp, 1, none⟩ = some (.slice sa sn sc))
      (first | exact ⟨c0, c1⟩ | exact T2 | exact T3)
      (first
        | (go_at_call 20; refine (HIS.out _).mono ?_
           rintro e x1 ⟨rfl, hb1⟩
           have L2 := hid (show Below x0.heap.size x0 x1 from ⟨hb1.os, hb1.tape, hb1.output, hb1.size, hb1.block⟩)
           have T2 := And.intro ((HX0.out.low L2.out).2 0 _ rfl) ((HX0.out.low L2.out).2 1 _ rfl)
           clear hb1)
        | (go_at_call 21; refine (ptakes_any 3 0 ma M mn mc HMN.out _ (HM.out.low (show Below x0.heap.size x0 _ from ⟨L2.out.os, L2.out.tape, L2.out.output, L2.out.size, L2.out.block⟩)) HGM.out).mono ?_
           rintro e x2 ⟨⟨bb, rfl, hbb⟩, hb2⟩
           have L3 := hid (show Below x0.heap.size x0 x2 from L2.out.trans (show Below x0.heap.size x1 x2 from ⟨hb2.os, hb2.tape, hb2.output, hb2.size, fun q hq => hb2.block q (Nat.lt_of_lt_of_le hq L2.out.size)⟩))
           have T3 := And.intro ((HX0.out.low L3.out).2 0 _ rfl) ((HX0.out.low L3.out).2 1 _ rfl)
           have HBB := hid hbb
           clear hbb hb2))
    go_wp2_with fail
    go_ret
    refine ⟨⟨_, rfl, ?_⟩, by rw [HBP.out]; exact HLX.out.trans (L3.out.mono (by have h1 := HLX.out.size; have h2 := HBP.out; omega))⟩
    rw [HBB.out]
    unfold PoP
    have h3 : S.length = 0 := by have h4 := HH.out; rw [← HN.out]; simpa using h4
    exact ⟨fun h => ⟨h3, h⟩, fun h => h.2⟩
end Go.Proofs.YtimmjikpcekffaaGreatDoor.L
