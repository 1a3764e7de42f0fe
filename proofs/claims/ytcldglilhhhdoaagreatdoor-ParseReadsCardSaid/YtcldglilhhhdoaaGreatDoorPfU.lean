import Derived.Test.YtcldglilhhhdoaaGreatDoorPfT
import Derived.Test.YtcldglilhhhdoaaGreatDoorMgAU
namespace Go.Proofs.YtcldglilhhhdoaaGreatDoor.L
open Go.RowKit
set_option linter.unusedVariables false
set_option linter.unusedSimpArgs false
/-- The parts and the offsets that are read; none beside a fault. -/
def rdp (src : ByteArray) : List Pt := match parR src with
  | .ok s => s.ps
  | .error _ => []
def rdo (src : ByteArray) : List Int := match parR src with
  | .ok s => s.os
  | .error _ => []
theorem rdp_most (src : ByteArray) : (rdp src).length ≤ 1000 ∧ (rdo src).length ≤ 1000 ∧ ∀ j, j < (rdp src).length → (pt (rdp src) j).kids.length ≤ 1000000 := by
  unfold rdp rdo
  cases h : parR src with
  | error e => exact ⟨by simp, by simp, fun j hj => absurd hj (by simp)⟩
  | ok s =>
    have r := either_ok h
    refine ⟨r.most, ?_, fun j hj => ?_⟩
    · show s.os.length ≤ 1000
      have h1 := r.len; have h2 := r.most; omega
    · have h5 := (r.ok j hj).1; have h6 := fre_len s.ps j; have h7 := r.most; show (pt s.ps j).kids.length ≤ _; have h8 : j < s.ps.length := hj; omega
theorem par_two {src : ByteArray} {W1 W2 : World} {e : Ending} (h : PaR src W1 e W2) : ∃ va vc oa oc er, e = .returned (.tuple #[.agg #[.slice va (rdp src).length vc], .slice oa (rdo src).length oc, er]) ∧ PL W2 va (rdp src) ∧ RdI W2 oa (rdo src) ∧ ∀ W, Below W2.heap.size W2 W → Calls Tryz.prog 12 #[er] W fun e w' => e = .returned (.agg (f19 (rdc src).1 (rdc src).2)) ∧ Below W.heap.size W w' := by
  unfold PaR at h
  unfold rdc rdp rdo
  cases hp : parR src with
  | ok s =>
    rw [hp] at h
    obtain ⟨pb, B, Nb, tv, T, v, o, ks, hB, rfl, pm⟩ := h
    obtain ⟨a, c, e1, h1⟩ := pm.parts.pl
    obtain ⟨a2, c2, e2, h2⟩ := own_rdi pm.offs
    exact ⟨a, c, a2, c2, _, by rw [e1, e2], h1.pl, h2, fun W _ => read_nil W⟩
  | error q =>
    obtain ⟨c, x⟩ := q
    rw [hp] at h
    obtain ⟨N, rfl, hf⟩ := h
    exact ⟨none, 0, none, 0, _, rfl, Or.inl rfl, Or.inl rfl, fun W hb => read_flt N c x W ((hb.block N (lt_blk hf)).trans hf) (parR_code hp)⟩
theorem rpr_two {src : ByteArray} {W1 W2 : World} {e : Ending} (h : RpR src W1 e W2) : ∃ va vc oa oc, e = .returned (.tuple #[.agg #[.slice va (rdp src).length vc], .slice oa (rdo src).length oc, .agg (f19 (rdc src).1 (rdc src).2)]) ∧ PL W2 va (rdp src) ∧ RdI W2 oa (rdo src) := by
  unfold RpR at h
  unfold rdc rdp rdo
  cases hp : parR src with
  | ok s =>
    rw [hp] at h
    obtain ⟨mb, B, tv, T, ws, fr, fl, wv, v, o, f, ks, hB, rfl, pm⟩ := h
    obtain ⟨a, c, e1, h1⟩ := pm.parts.pl
    obtain ⟨a2, c2, e2, h2⟩ := own_rdi pm.offs
    exact ⟨a, c, a2, c2, by rw [e1, e2], h1.pl, h2⟩
  | error q =>
    obtain ⟨c, x⟩ := q
    rw [hp] at h
    exact ⟨none, 0, none, 0, h, Or.inl rfl, Or.inl rfl⟩
theorem yields_row2 {ops : Array Oper} {S : World → Prop} {op : Oper} {a : Act} (hw : Region.wanted op (yielded ops a.tmps) = true) (x : Operand) (ho : op.op = .load 35 x) (g : Nat) (hx : a.eval x = .pointer (some ⟨g, 0, none⟩)) (cs : Array Value) (h9 : cs.size = 19) (hS : ∀ W, S W → Hid (W.heap[g]? = some (.cells cs 35 (0, 0)))) : YieldsIf Tryz.prog ops S op (.agg cs) a := by
  have hy := yieldsIf_load_mid (P := Tryz.prog) (S := S) hw 35 x ho g 0 hx cs.toList _ (fun W h2 j v h => (by rw [Nat.zero_add, cell_of_row _ _ j _ _ _ (hS W h2).out, ← Array.getElem?_toList]; exact h)) Tryz.underlying35 rfl (by rw [Array.length_toList, h9]; exact info53)
  rw [Array.toArray_toList] at hy
  exact hy
set_option maxHeartbeats 16000000 in
set_option maxRecDepth 100000 in
theorem preads_any (src : ByteArray) (w : World) (hv : Vars w) : Calls Tryz.prog 3 #[.string src] w fun e w' => e = .returned (.bool true) ∧ Below w.heap.size w w' := by
  have HV := hid hv
  obtain ⟨ZC, hz⟩ : ∃ ZC : Array Value, ZC = f19 0 0 := ⟨_, rfl⟩
  have HZC := hid hz
  have HZ9 := hid (show ZC.size = 19 by rw [hz]; rfl)
  clear hz
  obtain ⟨cs, hcs⟩ : ∃ cs : Array Value, cs = f19 (rdc src).1 (rdc src).2 := ⟨_, rfl⟩
  have HCS := hid hcs
  have HC9 := hid (show cs.size = 19 by rw [hcs]; rfl)
  have HRUN := hid (show ∀ w, (binOp .eql 35 (.agg cs) (.agg cs)).run Tryz.prog w = .ok (.bool true) w from fun w => (by rw [hcs]; exact run_eqf _ _ w))
  have HMO := hid (rdp_most src)
  clear hcs hv
  go_enter Tryz.func3, Tryz.ntmps3
  go_wp2_with fail
  refine (wakes_any w HV.out).mono ?_
  rintro e W1 ⟨rfl, l1⟩
  have HL1 := hid l1
  clear l1
  go_wp2_with fail
  refine (parse_any src W1 (HV.out.low HL1.out)).mono ?_
  rintro e W2 ⟨hp, l2⟩
  obtain ⟨va, vc, oa, oc, er, rfl, hpl, hro, hrd⟩ := par_two hp
  rw [← HCS.out] at hrd
  have HRD := hid hrd
  have HPL := hid hpl
  have HRO := hid hro
  have HL2 := hid (HL1.out.trans (l2.mono HL1.out.size))
  clear hp l2 hrd hpl hro
  obtain ⟨pn, hpn⟩ : ∃ pn, pn = (rdp src).length := ⟨_, rfl⟩
  obtain ⟨on, hon⟩ : ∃ on, on = (rdo src).length := ⟨_, rfl⟩
  have HPN := hid hpn
  have HON := hid hon
  rw [← hpn, ← hon]
  clear hpn hon
  go_upto_region 4 with fail
  have HB3 := hid (belowA W2 (.cells #[.slice va pn vc] 25))
  have HX3 := hid (heap_alloc_new W2 (.cells #[.slice va pn vc] 25))
  generalize W2.alloc (.cells #[.slice va pn vc] 25) = W3 at *
  have HL3 := hid (HL2.out.trans (HB3.out.mono HL2.out.size))
  have HD3 := hid (show Below W2.heap.size W2 W3 from HB3.out)
  obtain ⟨b3, hb3⟩ : ∃ b, b = W2.heap.size := ⟨_, rfl⟩
  rw [← hb3]
  rw [← hb3] at HX3
  clear hb3
  go_upto_region 4 with fail
  refine wp_region_lit ?_
  have e1 : (#[.int .i64 0, .int .i64 0, .string ⟨#[]⟩, .int .i64 0, .int .i64 0, .int .i64 0, .string ⟨#[]⟩, .int .i64 0, .int .i64 0, .int .i64 0, .string ⟨#[]⟩, .int .i64 0, .int .i64 0, .int .i64 0, .string ⟨#[]⟩, .int .i64 0, .int .i64 0, .int .i64 0, .string ⟨#[]⟩] : Array Value) = ZC := by rw [HZC.out]; rfl
  refine wpList_plain rfl fun K hK => ?_
  have HK := hid hK
  clear hK
  go_simp
  (try rw [e1])
  refine HK.out _ _ ?_
  clear HK
  try simp only [Act.put, List.setIfInBounds_toArray, List.set_cons_zero, List.set_cons_succ]
  refine wpList_step fun K hK => ?_
  rw [if_pos (by first | rfl | kernel_rfl)]
  go_simp
  refine (rparse_any src W3).mono ?_
  rintro e W4 ⟨hp, l⟩
  obtain ⟨va2, vc2, oa2, oc2, rfl, hpl, hro⟩ := rpr_two hp
  rw [← HCS.out, ← HPN.out, ← HON.out]
  have HPL2 := hid hpl
  have HRO2 := hid hro
  have HL4 := hid (HL3.out.trans (l.mono HL3.out.size))
  have HD4 := hid (HD3.out.trans (l.mono HD3.out.size))
  have HX4 := hid ((l.block _ (lt_blk HX3.out)).trans HX3.out)
  clear hp l hpl hro
  refine hK _ _ ?_
  clear hK K
  try simp only [Act.put, List.setIfInBounds_toArray, List.set_cons_zero, List.set_cons_succ]
  refine wpList_plain rfl fun K hK => ?_
  have HK := hid hK
  clear hK
  go_simp
  (try rw [e1])
  refine HK.out _ _ ?_
  clear HK
  try simp only [Act.put, List.setIfInBounds_toArray, List.set_cons_zero, List.set_cons_succ]
  refine wpList_plain rfl fun K hK => ?_
  have HK := hid hK
  clear hK
  go_simp
  (try rw [e1])
  refine HK.out _ _ ?_
  clear HK
  try simp only [Act.put, List.setIfInBounds_toArray, List.set_cons_zero, List.set_cons_succ]
  refine wpList_plain rfl fun K hK => ?_
  have HK := hid hK
  clear hK
  go_simp
  (try rw [e1])
  refine HK.out _ _ ?_
  clear HK
  try simp only [Act.put, List.setIfInBounds_toArray, List.set_cons_zero, List.set_cons_succ]
  refine wpList_plain rfl fun K hK => ?_
  have HK := hid hK
  clear hK
  go_simp
  (try rw [e1])
  refine HK.out _ _ ?_
  clear HK
  try simp only [Act.put, List.setIfInBounds_toArray, List.set_cons_zero, List.set_cons_succ]
  refine wpList_plain rfl fun K hK => ?_
  have HK := hid hK
  clear hK
  go_simp
  (try rw [e1])
  refine HK.out _ _ ?_
  clear HK
  try simp only [Act.put, List.setIfInBounds_toArray, List.set_cons_zero, List.set_cons_succ]
  refine wpList_plain rfl fun K hK => ?_
  have HK := hid hK
  clear hK
  go_simp
  (try rw [e1])
  refine HK.out _ _ ?_
  clear HK
  try simp only [Act.put, List.setIfInBounds_toArray, List.set_cons_zero, List.set_cons_succ]
  have HT5 := hid (show ((W4.alloc (.cells #[.slice none 0 0] 25)).alloc (.cells ZC 35)).heap[W4.heap.size]? = some (.cells #[.slice none 0 0] 25 (0, 0)) from ((belowA (W4.alloc (.cells #[.slice none 0 0] 25)) (.cells ZC 35)).block _ (by simp)).trans (heap_alloc_new W4 _))
  have HE5 := hid (show ((W4.alloc (.cells #[.slice none 0 0] 25)).alloc (.cells ZC 35)).heap[W4.heap.size + 1]? = some (.cells ZC 35 (0, 0)) by have h1 := heap_alloc_new (W4.alloc (.cells #[.slice none 0 0] 25)) (.cells ZC 35); rw [World.size_alloc] at h1; exact h1)
  have HB5 := hid (show Below W4.heap.size W4 ((W4.alloc (.cells #[.slice none 0 0] 25)).alloc (.cells ZC 35)) from (belowA W4 _).trans ((belowA _ _).mono (belowA W4 _).size))
  generalize ((W4.alloc (.cells #[.slice none 0 0] 25)).alloc (.cells ZC 35)) = W5 at *
  refine wpList_store_row rfl 25 _ _ rfl W4.heap.size #[.slice va2 pn vc2] rfl rfl 25 _ HT5.out infoTr rfl (by kernel_rfl) ?_
  try simp only [Act.put, List.setIfInBounds_toArray, List.set_cons_zero, List.set_cons_succ]
  refine wpList_plain rfl fun K hK => ?_
  have HK := hid hK
  clear hK
  go_simp
  (try rw [e1])
  refine HK.out _ _ ?_
  clear HK
  try simp only [Act.put, List.setIfInBounds_toArray, List.set_cons_zero, List.set_cons_succ]
  refine wpList_store_row rfl 35 _ _ rfl (W4.heap.size + 1) cs rfl rfl 35 _ ((setRow_other _ _ _ _ (by omega)).trans HE5.out) (by rw [HC9.out]; exact info19) (by rw [HZ9.out, HC9.out]) (by rw [HCS.out]; kernel_rfl) ?_
  try simp only [Act.put, List.setIfInBounds_toArray, List.set_cons_zero, List.set_cons_succ]
  have HTR := hid (two_rows HT5.out HE5.out #[.slice va2 pn vc2] cs)
  have HB6 := hid (below_row (below_row HB5.out W4.heap.size #[.slice va2 pn vc2] (Nat.le_refl _)) (W4.heap.size + 1) cs (by omega))
  generalize (W5.setRow W4.heap.size #[.slice va2 pn vc2]).setRow (W4.heap.size + 1) cs = W6 at *
  clear e1
  have HL6 := hid (HL4.out.trans (HB6.out.mono HL4.out.size))
  have HD6 := hid (HD4.out.trans (HB6.out.mono HD4.out.size))
  have HX6 := hid ((HB6.out.block _ (lt_blk HX4.out)).trans HX4.out)
  have HP6 := hid (HPL2.out.low HB6.out)
  have HO6 := hid (HRO2.out.low HB6.out (Nat.le_refl _))
  have HP5 := hid (HPL.out.low HD6.out)
  have HO5 := hid (HRO.out.low HD6.out (Nat.le_refl _))
  obtain ⟨b8, hb8⟩ : ∃ b, b = W4.heap.size + 1 := ⟨_, rfl⟩
  rw [← hb8] at HTR ⊢
  clear hb8
  obtain ⟨b6, hb6⟩ : ∃ b, b = W4.heap.size := ⟨_, rfl⟩
  rw [← hb6] at HTR ⊢
  clear hb6
  have HF6 := hid HTR.out.2.1
  have HT6 := hid HTR.out.1
  clear HTR
  have MS := hid (show ∀ Y, Below W6.heap.size W6 Y → (fun Y => (Hid (Y.heap[b8]? = some (.cells cs 35 (0, 0)))) ∧ Y.cell? ⟨b3, 0, none⟩ = some (.slice va pn vc) ∧ Y.cell? ⟨b6, 0, none⟩ = some (.slice va2 pn vc2)) Y from fun Y hb => ⟨hid ((hb.block b8 (lt_blk HF6.out)).trans HF6.out), cell_of_row _ _ 0 _ _ _ ((hb.block b3 (lt_blk HX6.out)).trans HX6.out), cell_of_row _ _ 0 _ _ _ ((hb.block b6 (lt_blk HT6.out)).trans HT6.out)⟩)
  go_upto_region 5 with fail
  have HDZ := hid (show Below W6.heap.size W6 W6.drew from (Below.refl _ W6).drew)
  refine wp_region_held_drew (S := (fun Y => (Hid (Y.heap[b8]? = some (.cells cs 35 (0, 0)))) ∧ Y.cell? ⟨b3, 0, none⟩ = some (.slice va pn vc) ∧ Y.cell? ⟨b6, 0, none⟩ = some (.slice va2 pn vc2))) (by kernel_rfl) ?_ (fun hHeld => ?_)
  · exact MS.out _ HDZ.out
  generalize W6.drew = Z at *
  refine wpAnyH_take (i := 0) (v := ?_) rfl (by kernel_rfl) (by kernel_rfl) (by kernel_rfl) (fun _ _ _ h => h) (Or.inl ⟨by rfl, ?_⟩) (by assumption) ?_
  rotate_left
  · (intro w hSw; (try dsimp only at hSw); go_simp; try with_reducible rfl)
  try simp only [Act.put, List.setIfInBounds_toArray, List.set_cons_zero, List.set_cons_succ]
  refine wpAnyH_take (i := 2) (oi := { dst := some 25, op := Op.load 35 (Operand.tmp 8), type := 35, pos := "law.go:58", after := #[], guard := none }) (v := .agg cs) rfl (by kernel_rfl) (by kernel_rfl) (by kernel_rfl) (fun _ _ _ h => h) (yields_row2 (by first | rfl | kernel_rfl) _ rfl b8 rfl cs HC9.out (fun W h => h.1)) (by assumption) ?_
  try simp only [Act.put, List.setIfInBounds_toArray, List.set_cons_zero, List.set_cons_succ]
  refine wpAnyH_ready (rs := [1]) (by kernel_rfl) (by simp) ?_
  refine AllReadyH.cons rfl (fun K hK => ?_) AllReadyH.nil
  go_simp
  refine (HRD.out Z (HD6.out.trans (HDZ.out.mono HD6.out.size))).mono ?_
  rintro e Y1 ⟨rfl, l⟩
  have HY1 := hid (HDZ.out.trans (l.mono HDZ.out.size))
  clear l
  refine hK.out _ _ ?_ (fun hHeld => ?_)
  · exact MS.out _ HY1.out
  clear hK K
  try simp only [Act.put, List.setIfInBounds_toArray, List.set_cons_zero, List.set_cons_succ]
  have hrun := HRUN.out
  refine wpAnyH_take (i := 3) (v := ?_) rfl (by kernel_rfl) (by kernel_rfl) (by kernel_rfl) (fun _ _ _ h => h) (Or.inl ⟨by rfl, ?_⟩) (by assumption) ?_
  rotate_left
  · (intro w hSw; (try dsimp only at hSw); go_simp; try with_reducible rfl)
  try simp only [Act.put, List.setIfInBounds_toArray, List.set_cons_zero, List.set_cons_succ]
  clear hrun
  refine wpAnyH_take (i := 4) (v := ?_) rfl (by kernel_rfl) (by kernel_rfl) (by kernel_rfl) (fun _ _ _ h => h) (Or.inl ⟨by rfl, ?_⟩) (by assumption) ?_
  rotate_left
  · (intro w hSw; (try dsimp only at hSw); go_simp; try with_reducible rfl)
  try simp only [Act.put, List.setIfInBounds_toArray, List.set_cons_zero, List.set_cons_succ]
  refine wpAnyH_take (i := 5) (v := ?_) rfl (by kernel_rfl) (by kernel_rfl) (by kernel_rfl) (fun _ _ _ h => h) (Or.inl ⟨by rfl, ?_⟩) (by assumption) ?_
  rotate_left
  · (intro w hSw; (try dsimp only at hSw); go_simp; try with_reducible rfl)
  try simp only [Act.put, List.setIfInBounds_toArray, List.set_cons_zero, List.set_cons_succ]
  refine wpAnyH_take (i := 6) (v := ?_) rfl (by kernel_rfl) (by kernel_rfl) (by kernel_rfl) (fun _ _ _ h => h) (Or.inl ⟨by rfl, ?_⟩) (by assumption) ?_
  rotate_left
  · (intro w hSw; (try dsimp only at hSw); go_simp; try with_reducible rfl)
  try simp only [Act.put, List.setIfInBounds_toArray, List.set_cons_zero, List.set_cons_succ]
  refine wpAnyH_ready (rs := [7]) (by kernel_rfl) (by simp) ?_
  refine AllReadyH.cons rfl (fun K hK => ?_) AllReadyH.nil
  go_simp
  have hsm := same_tree va va2 (rdp src) vc vc2 Y1 (HP5.out.low HY1.out) (HP6.out.low HY1.out) HMO.out.1 HMO.out.2.2
  rw [← HPN.out] at hsm
  refine hsm.mono ?_
  clear hsm
  rintro e Y2 ⟨rfl, l⟩
  have HY2 := hid (HY1.out.trans (l.mono HY1.out.size))
  clear l
  refine hK.out _ _ ?_ (fun hHeld => ?_)
  · exact MS.out _ HY2.out
  clear hK K
  try simp only [Act.put, List.setIfInBounds_toArray, List.set_cons_zero, List.set_cons_succ]
  refine wpAnyH_take (i := 8) (v := ?_) rfl (by kernel_rfl) (by kernel_rfl) (by kernel_rfl) (fun _ _ _ h => h) (Or.inl ⟨by rfl, ?_⟩) (by assumption) ?_
  rotate_left
  · (intro w hSw; (try dsimp only at hSw); go_simp; try with_reducible rfl)
  try simp only [Act.put, List.setIfInBounds_toArray, List.set_cons_zero, List.set_cons_succ]
  refine wpAnyH_take (i := 9) (v := ?_) rfl (by kernel_rfl) (by kernel_rfl) (by kernel_rfl) (fun _ _ _ h => h) (Or.inl ⟨by rfl, ?_⟩) (by assumption) ?_
  rotate_left
  · (intro w hSw; (try dsimp only at hSw); go_simp; try with_reducible rfl)
  try simp only [Act.put, List.setIfInBounds_toArray, List.set_cons_zero, List.set_cons_succ]
  refine wpAnyH_take (i := 10) (v := ?_) rfl (by kernel_rfl) (by kernel_rfl) (by kernel_rfl) (fun _ _ _ h => h) (Or.inl ⟨by rfl, ?_⟩) (by assumption) ?_
  rotate_left
  · (intro w hSw; (try dsimp only at hSw); go_simp; try with_reducible rfl)
  try simp only [Act.put, List.setIfInBounds_toArray, List.set_cons_zero, List.set_cons_succ]
  refine wpAnyH_take (i := 11) (v := ?_) rfl (by kernel_rfl) (by kernel_rfl) (by kernel_rfl) (fun _ _ _ h => h) (Or.inl ⟨by rfl, ?_⟩) (by assumption) ?_
  rotate_left
  · (intro w hSw; (try dsimp only at hSw); go_simp; try with_reducible rfl)
  try simp only [Act.put, List.setIfInBounds_toArray, List.set_cons_zero, List.set_cons_succ]
  refine wpAnyH_ready (rs := [12]) (by kernel_rfl) (by simp) ?_
  refine AllReadyH.cons rfl (fun K hK => ?_) AllReadyH.nil
  go_simp
  have hsi := sints_yes oa oa2 (rdo src) oc oc2 Y2 (HO5.out.low HY2.out (Nat.le_refl _)) (HO6.out.low HY2.out (Nat.le_refl _)) (by have h8 := HMO.out.2.1; omega)
  rw [← HON.out] at hsi
  refine hsi.mono ?_
  clear hsi
  rintro e Y3 ⟨rfl, l⟩
  have HY3 := hid (HY2.out.trans (l.mono HY2.out.size))
  clear l
  refine hK.out _ _ ?_ (fun hHeld => ?_)
  · exact MS.out _ HY3.out
  clear hK K
  try simp only [Act.put, List.setIfInBounds_toArray, List.set_cons_zero, List.set_cons_succ]
  refine wpAnyH_take (i := 13) (v := ?_) rfl (by kernel_rfl) (by kernel_rfl) (by kernel_rfl) (fun _ _ _ h => h) (Or.inl ⟨by rfl, ?_⟩) (by assumption) ?_
  rotate_left
  · (intro w hSw; (try dsimp only at hSw); go_simp; try with_reducible rfl)
  try simp only [Act.put, List.setIfInBounds_toArray, List.set_cons_zero, List.set_cons_succ]
  refine wpAnyH_take (i := 14) (v := ?_) rfl (by kernel_rfl) (by kernel_rfl) (by kernel_rfl) (fun _ _ _ h => h) (Or.inl ⟨by rfl, ?_⟩) (by assumption) ?_
  rotate_left
  · (intro w hSw; (try dsimp only at hSw); go_simp; try with_reducible rfl)
  try simp only [Act.put, List.setIfInBounds_toArray, List.set_cons_zero, List.set_cons_succ]
  refine wpAnyH_done (by kernel_rfl) ?_ _
  go_wp2_with fail
  go_ret
  exact ⟨rfl, HL6.out.trans (HY3.out.mono HL6.out.size)⟩
end Go.Proofs.YtcldglilhhhdoaaGreatDoor.L
