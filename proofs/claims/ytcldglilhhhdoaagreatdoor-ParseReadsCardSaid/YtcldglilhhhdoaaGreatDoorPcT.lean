import Derived.Test.YtcldglilhhhdoaaGreatDoorMgAQ
namespace Go.Proofs.YtcldglilhhhdoaaGreatDoor.L
open Go.RowKit
set_option linter.unusedVariables false
set_option linter.unusedSimpArgs false
theorem par_read {src : ByteArray} {W1 W2 : World} {e : Ending} (h : PaR src W1 e W2) : ∃ va vn vc oa on oc er, e = .returned (.tuple #[.agg #[.slice va vn vc], .slice oa on oc, er]) ∧ ∀ W, Below W2.heap.size W2 W → Calls Tryz.prog 12 #[er] W fun e w' => e = .returned (.agg (f19 (rdc src).1 (rdc src).2)) ∧ Below W.heap.size W w' := by
  unfold PaR at h
  unfold rdc
  cases hp : parR src with
  | ok s =>
    rw [hp] at h
    obtain ⟨pb, B, Nb, tv, T, v, o, ks, hB, rfl, pm⟩ := h
    obtain ⟨a, c, e1⟩ := own_len pm.parts.row
    obtain ⟨a2, c2, e2⟩ := own_form pm.offs
    exact ⟨a, _, c, a2, _, c2, _, by rw [← e1, ← e2], fun W _ => read_nil W⟩
  | error q =>
    obtain ⟨c, x⟩ := q
    rw [hp] at h
    obtain ⟨N, rfl, hf⟩ := h
    exact ⟨_, _, _, _, _, _, _, rfl, fun W hb => read_flt N c x W ((hb.block N (lt_blk hf)).trans hf) (parR_code hp)⟩
theorem run_eqf (c a : Int) (w : World) : (binOp .eql 35 (.agg (f19 c a)) (.agg (f19 c a))).run Tryz.prog w = .ok (.bool true) w := run_eq53 c a w
theorem rdc_of {src : ByteArray} {c : Nat} {x : Int} (h : parR src = .error (c, x)) : rdc src = ((c : Int), x) := by unfold rdc; rw [h]
theorem rdc_inv {src : ByteArray} {n : Nat} (hn : n ≠ 0) (h : (rdc src).1 = (n : Int)) : parR src = .error (n, (rdc src).2) := by
  unfold rdc at h ⊢
  cases hp : parR src with
  | ok s => rw [hp] at h; simp only at h; omega
  | error q =>
    obtain ⟨c, x⟩ := q
    rw [hp] at h
    simp only at h ⊢
    rw [show c = n by omega]
theorem parR_scan {src : ByteArray} {c : Nat} {x : Int} (h : parR src = .error (c, x)) (hc : 116 ≤ c) : (scanT src).2 = none := by
  cases hs : (scanT src).2 with
  | none => rfl
  | some q =>
    obtain ⟨c', a'⟩ := q
    unfold parR at h
    rw [hs] at h
    simp only [Except.error.injEq, Prod.mk.injEq] at h
    have := scanT_codes hs
    omega
theorem own_tok {W : World} {B : Nat} {v : Value} {l : List Tok} (h : OwnT W B v l) (h0 : 0 < l.length) : ∃ g c, v = .slice (some ⟨g, 0, none⟩) l.length c ∧ g < W.heap.size ∧ ∀ j r, j < l.length → r < 5 → W.cell? ⟨g, j * 5 + r, none⟩ = ([.int .i64 ((tk l j).kind : Int), .string (tk l j).text, .int .i64 (tk l j).num, .int .i64 ((tk l j).a : Int), .int .i64 ((tk l j).e : Int)] : List Value)[r]? := by
  rcases h.2 with ⟨_, n0⟩ | ⟨g, cap, cur, rfl, hb, hg, h3, h4, h5, h6⟩
  · omega
  · refine ⟨g, cap, rfl, lt_blk hg, fun j r hj hr => ?_⟩
    rw [cell_of_row W g _ _ _ _ hg, ← cellsT_get l j r hr hj, ← h6, List.getElem?_take_of_lt (by omega), Array.getElem?_toList]
/-- The source up to a token's end, a new line, and more. -/
def oth (src more : ByteArray) (e : Nat) : ByteArray := src.extract 0 e ++ ⟨#[10]⟩ ++ more
theorem oth_pre (src more : ByteArray) (e : Nat) (he : e ≤ src.size) : Pre src (oth src more e) e ∧ bt (oth src more e) e = 10 := by
  have hz : (src.extract 0 e).size = e := by rw [ext_sz src 0 e he]; rfl
  refine ⟨⟨he, by unfold oth; simp; omega, fun j hj => ?_⟩, ?_⟩
  · unfold oth
    rw [bt_app', if_pos (by rw [ByteArray.size_append, hz]; omega), bt_app', if_pos (by rw [hz]; omega), ext_bt src 0 e j (by omega) he, Nat.zero_add]
  · unfold oth
    rw [bt_app', if_pos (by rw [ByteArray.size_append, hz]; show e < e + 1; omega), bt_app', if_neg (by rw [hz]; omega), hz, Nat.sub_self]
    rfl
theorem yields_row {ops : Array Oper} {op : Oper} {a : Act} (hw : Region.wanted op (yielded ops a.tmps) = true) (x : Operand) (ho : op.op = .load 35 x) (g : Nat) (hx : a.eval x = .pointer (some ⟨g, 0, none⟩)) (cs : Array Value) (h9 : cs.size = 19) : YieldsIf Tryz.prog ops (fun Y => Hid (Y.heap[g]? = some (.cells cs 35 (0, 0)))) op (.agg cs) a := by
  have hy := yieldsIf_load_mid (P := Tryz.prog) (S := fun Y => Hid (Y.heap[g]? = some (.cells cs 35 (0, 0)))) hw 35 x ho g 0 hx cs.toList _ (fun W hS j v h => (by rw [Nat.zero_add, cell_of_row _ _ j _ _ _ hS.out, ← Array.getElem?_toList]; exact h)) Tryz.underlying35 rfl (by rw [Array.length_toList, h9]; exact info53)
  rw [Array.toArray_toList] at hy
  exact hy
set_option maxHeartbeats 4000000 in
set_option maxRecDepth 100000 in
theorem prest_any (src more : ByteArray) (w : World) (hv : Vars w) (h1 : src.size ≤ 140737488355328) (h2 : more.size ≤ 140737488355328) : Calls Tryz.prog 7 #[.string src, .string more] w fun e w' => e = .returned (.bool true) ∧ Below w.heap.size w w' := by
  have HV := hid hv
  have HS1 := hid h1
  have HS2 := hid h2
  obtain ⟨ZC, hz⟩ : ∃ ZC : Array Value, ZC = f19 0 0 := ⟨_, rfl⟩
  have HZC := hid hz
  have HZ9 := hid (show ZC.size = 19 by rw [hz]; rfl)
  clear hz
  have e1 : (#[.int .i64 0, .int .i64 0, .string ⟨#[]⟩, .int .i64 0, .int .i64 0, .int .i64 0, .string ⟨#[]⟩, .int .i64 0, .int .i64 0, .int .i64 0, .string ⟨#[]⟩, .int .i64 0, .int .i64 0, .int .i64 0, .string ⟨#[]⟩, .int .i64 0, .int .i64 0, .int .i64 0, .string ⟨#[]⟩] : Array Value) = ZC := by rw [HZC.out]; rfl
  obtain ⟨C, hC⟩ : ∃ C, C = (rdc src).1 := ⟨_, rfl⟩
  obtain ⟨X, hX⟩ : ∃ X, X = (rdc src).2 := ⟨_, rfl⟩
  have HC := hid hC
  have HX := hid hX
  obtain ⟨cs, hcs⟩ : ∃ cs : Array Value, cs = f19 C X := ⟨_, rfl⟩
  have HCS := hid hcs
  have HC9 := hid (show cs.size = 19 by rw [hcs]; rfl)
  have HRUN := hid (show ∀ w, (binOp .eql 35 (.agg cs) (.agg cs)).run Tryz.prog w = .ok (.bool true) w from fun w => (by rw [hcs]; exact run_eqf C X w))
  have HC0 := hid (show cs[0]? = some (.int .i64 C) by rw [hcs]; rfl)
  have HC1 := hid (show cs[1]? = some (.int .i64 X) by rw [hcs]; rfl)
  skip
  clear hC hX hcs hv h1 h2
  by_cases hcc : C = 120 ∨ C = 122 ∨ C = 124
  rotate_left
  · have n1 : (C != 120) = true := by simp; omega
    have n2 : (C != 122) = true := by simp; omega
    have n3 : (C != 124) = true := by simp; omega
    clear hcc
    go_enter Tryz.func7, Tryz.ntmps7
    go_wp2_with fail
    refine (wakes_any w HV.out).mono ?_
    rintro e W1 ⟨rfl, l1⟩
    have HL1 := hid l1
    clear l1
    go_wp2_with fail
    refine (parse_any src W1 (HV.out.low HL1.out)).mono ?_
    rintro e W2 ⟨hp, l2⟩
    obtain ⟨va, vn, vc, oa, on, oc, er, rfl, hrd⟩ := par_read hp
    have HRD := hid hrd
    have HL2 := hid (HL1.out.trans (l2.mono HL1.out.size))
    clear hp l2 hrd
    rw [← HC.out, ← HX.out, ← HCS.out] at HRD
    go_upto_region 4 with fail
    have HB3 := hid (belowA W2 (.cells #[.slice va vn vc] 25))
    generalize W2.alloc (.cells #[.slice va vn vc] 25) = W3 at *
    have HL3 := hid (HL2.out.trans (HB3.out.mono HL2.out.size))
    go_upto_region 4 with fail
    refine wp_region_lit ?_
    refine wpList_plain rfl fun K hK => ?_
    have HK := hid hK
    clear hK
    go_simp
    (try rw [e1])
    refine HK.out _ _ ?_
    clear HK
    try simp only [Act.put, List.setIfInBounds_toArray, List.set_cons_zero, List.set_cons_succ]
    refine wpList_step fun K hK => ?_
    rw [if_pos (by first | rfl | kernel_rfl)]
    go_simp
    refine (HRD.out W3 HB3.out).mono ?_
    rintro e W4 ⟨rfl, l⟩
    refine hK _ _ ?_
    clear hK K
    try simp only [Act.put, List.setIfInBounds_toArray, List.set_cons_zero, List.set_cons_succ]
    refine wpList_plain rfl fun K hK => ?_
    have HK := hid hK
    clear hK
    go_simp
    (try rw [e1])
    refine HK.out _ _ ?_
    clear HK
    try simp only [Act.put, List.setIfInBounds_toArray, List.set_cons_zero, List.set_cons_succ]
    have HX5 := hid (heap_alloc_new W4 (.cells ZC 35))
    have HL4 := hid (HL3.out.trans (l.mono HL3.out.size))
    have HL5 := hid (HL4.out.trans ((belowA W4 (.cells ZC 35)).mono HL4.out.size))
    have HGE := hid HL4.out.size
    clear l
    refine wpList_store_row rfl 35 _ _ rfl W4.heap.size cs rfl rfl 35 ZC HX5.out (by rw [HC9.out]; exact info53) (by rw [HC9.out, HZ9.out]) (by rw [HCS.out]; kernel_rfl) ?_
    try simp only [Act.put, List.setIfInBounds_toArray, List.set_cons_zero, List.set_cons_succ]
    have HX6 := hid (setRow_heap _ _ ZC cs _ _ HX5.out)
    have HL6 := hid (below_row HL5.out W4.heap.size cs HGE.out)
    clear HX5 HL5
    generalize (W4.alloc (.cells ZC 35)).setRow W4.heap.size cs = W6 at *
    generalize W4.heap.size = b8 at *
    have k0 : W6.cell? ⟨b8, 0, none⟩ = some (.int .i64 C) := (cell_of_row _ _ 0 _ _ _ HX6.out).trans HC0.out
    go_wp2_with fail
    go_ret
    exact ⟨rfl, HL6.out⟩
  rcases hcc with hcc | hcc | hcc
  · subst hcc
    have HPR := hid (rdc_inv (src := src) (n := 120) (by decide) (by rw [← HC.out]; rfl))
    rw [← HX.out] at HPR
    have HSC := hid (parR_scan HPR.out (by decide))
    obtain ⟨i0, hi0, hx0, hae, hes, huq, hoth⟩ := rest_pure HPR.out HSC.out (by decide)
    have HX0 := hid hx0
    have HAE := hid (And.intro hae hes)
    have HUQ := hid huq
    have HOT := hid hoth
    have HI0 := hid hi0
    clear hx0 hae hes huq hoth hi0
    go_enter Tryz.func7, Tryz.ntmps7
    go_wp2_with fail
    refine (wakes_any w HV.out).mono ?_
    rintro e W1 ⟨rfl, l1⟩
    have HL1 := hid l1
    clear l1
    go_wp2_with fail
    refine (parse_any src W1 (HV.out.low HL1.out)).mono ?_
    rintro e W2 ⟨hp, l2⟩
    obtain ⟨va, vn, vc, oa, on, oc, er, rfl, hrd⟩ := par_read hp
    have HRD := hid hrd
    have HL2 := hid (HL1.out.trans (l2.mono HL1.out.size))
    clear hp l2 hrd
    rw [← HC.out, ← HX.out, ← HCS.out] at HRD
    go_upto_region 4 with fail
    have HB3 := hid (belowA W2 (.cells #[.slice va vn vc] 25))
    generalize W2.alloc (.cells #[.slice va vn vc] 25) = W3 at *
    have HL3 := hid (HL2.out.trans (HB3.out.mono HL2.out.size))
    go_upto_region 4 with fail
    refine wp_region_lit ?_
    refine wpList_plain rfl fun K hK => ?_
    have HK := hid hK
    clear hK
    go_simp
    (try rw [e1])
    refine HK.out _ _ ?_
    clear HK
    try simp only [Act.put, List.setIfInBounds_toArray, List.set_cons_zero, List.set_cons_succ]
    refine wpList_step fun K hK => ?_
    rw [if_pos (by first | rfl | kernel_rfl)]
    go_simp
    refine (HRD.out W3 HB3.out).mono ?_
    rintro e W4 ⟨rfl, l⟩
    refine hK _ _ ?_
    clear hK K
    try simp only [Act.put, List.setIfInBounds_toArray, List.set_cons_zero, List.set_cons_succ]
    refine wpList_plain rfl fun K hK => ?_
    have HK := hid hK
    clear hK
    go_simp
    (try rw [e1])
    refine HK.out _ _ ?_
    clear HK
    try simp only [Act.put, List.setIfInBounds_toArray, List.set_cons_zero, List.set_cons_succ]
    have HX5 := hid (heap_alloc_new W4 (.cells ZC 35))
    have HL4 := hid (HL3.out.trans (l.mono HL3.out.size))
    have HL5 := hid (HL4.out.trans ((belowA W4 (.cells ZC 35)).mono HL4.out.size))
    have HGE := hid HL4.out.size
    clear l
    refine wpList_store_row rfl 35 _ _ rfl W4.heap.size cs rfl rfl 35 ZC HX5.out (by rw [HC9.out]; exact info53) (by rw [HC9.out, HZ9.out]) (by rw [HCS.out]; kernel_rfl) ?_
    try simp only [Act.put, List.setIfInBounds_toArray, List.set_cons_zero, List.set_cons_succ]
    have HX6 := hid (setRow_heap _ _ ZC cs _ _ HX5.out)
    have HL6 := hid (below_row HL5.out W4.heap.size cs HGE.out)
    clear HX5 HL5
    generalize (W4.alloc (.cells ZC 35)).setRow W4.heap.size cs = W6 at *
    generalize W4.heap.size = b8 at *
    have k0 : W6.cell? ⟨b8, 0, none⟩ = some (.int .i64 120) := (cell_of_row _ _ 0 _ _ _ HX6.out).trans HC0.out
    go_wp2_with fail
    refine (scan_any src W6 (HV.out.low HL6.out)).mono ?_
    rintro e W7 ⟨l, ⟨tv, h1, rfl, ht⟩ | ⟨N, c1, a1, h1, _⟩⟩
    rotate_left
    · rw [HSC.out] at h1
      cases h1
    clear h1 k0
    obtain ⟨g, cp, rfl, hgl, htc⟩ := own_tok ht (by have := HI0.out; omega)
    have HX7 := hid ((l.block _ (lt_blk HX6.out)).trans HX6.out)
    have HL7 := hid (HL6.out.trans (l.mono HL6.out.size))
    have HTC := hid htc
    have HGL := hid hgl
    clear l ht htc hgl
    obtain ⟨T, hT⟩ : ∃ T, T = (scanT src).1 := ⟨_, rfl⟩
    have HTL := hid (show T.length ≤ 4097 by rw [hT]; exact scanT_len src)
    rw [← hT] at HX0 HAE HUQ HOT HI0 HTC ⊢
    obtain ⟨L, hL⟩ : ∃ L, L = T.length := ⟨_, rfl⟩
    have HLL := hid hL
    rw [← hL] at HTC HI0 HTL HUQ ⊢
    have hLm : L ≤ maxLen := by have := HTL.out; unfold maxLen; omega
    clear hL hT
    go_wp2_with fail
    go_loopw [11] (fun i wr => ∃ k : Nat, k ≤ i0 ∧ i = .int .i64 k ∧ Hid (∃ m, wr = W7.drewN m)) (fun i _ => i0 + 1 - (intOf i).toNat)
    case atStart => exact ⟨0, Nat.zero_le _, rfl, hid ⟨0, rfl⟩⟩
    case round =>
      obtain ⟨k, hk, rfl, HB⟩ := hrel
      obtain ⟨m0, hm0⟩ := HB.out
      have hkL : k < L := by have := HI0.out; omega
      have HM := hid hm0
      clear HB
      have hkb : (k : Int) ≤ 4097 := by have := HTL.out; omega
      have q3 : wr.cell? ⟨g, k * 5 + 3, none⟩ = some (.int .i64 ((tk T k).a : Int)) := by rw [hm0]; exact HTC.out k 3 hkL (by decide)
      have q4 : wr.cell? ⟨g, k * 5 + 4, none⟩ = some (.int .i64 ((tk T k).e : Int)) := by rw [hm0]; exact HTC.out k 4 hkL (by decide)
      have k1 : wr.cell? ⟨b8, 1, none⟩ = some (.int .i64 X) := by rw [hm0]; exact (cell_of_row _ _ 1 _ _ _ HX7.out).trans HC1.out
      clear hm0
      have HUK := hid (HUQ.out k hkL)
      obtain ⟨t, ht⟩ : ∃ t, t = tk T k := ⟨_, rfl⟩
      have HTE := hid ht
      rw [← ht] at q3 q4 HUK
      clear ht
      have g1 : (k : Int) < (L : Int) := by omega
      have g2 : (0 : Int) ≤ (k : Int) := by omega
      by_cases hx : (t.a : Int) = X
      · have HQ := hid (HUK.out (by have := HX0.out; omega))
        rw [← HQ.out] at HX0 HAE HOT
        have hne : ((t.a : Int) != X) = false := by simp [hx]
        have hle : ¬ (t.e : Int) ≤ X := by have := HAE.out.1; omega
        have hle2 : decide ((t.e : Int) ≤ X) = false := by simp; omega
        have hgt : ¬ (src.size : Int) < (t.e : Int) := by have := HAE.out.2; omega
        have hgt2 : decide ((src.size : Int) < (t.e : Int)) = false := by simp; omega
        have hs0 : (0 : Int) ≤ (t.e : Int) := by omega
        have hs1 : (t.e : Int) ≤ (src.size : Int) := by have := HAE.out.2; omega
        have hno : ¬ 9223372036854775807 < min t.e src.size + 1 + more.size := by have h3 := HS2.out; have h4 := HAE.out.2; have h5 := HS1.out; omega
        clear hx
        go_wp2_with fail
        go_quiet (fail)
        obtain ⟨n1, hn1⟩ : ∃ n1, n1 = nq := ⟨_, rfl⟩
        rw [← hn1]
        clear hn1
        go_wp2_with fail
        go_quiet (fail)
        go_wp2_with fail
        rw [show (src.extract 0 t.e ++ ⟨#[10]⟩ ++ more) = oth src more t.e from rfl]
        have HPB := hid (oth_pre src more t.e HAE.out.2)
        have HW := hid (show Below w.heap.size w (wr.drewN (n1 + nq)) from below_drewN (by rw [HM.out]; exact below_drewN HL7.out _) _)
        have HX8 := hid (show (wr.drewN (n1 + nq)).heap[b8]? = some (.cells cs 35 (0, 0)) from (by rw [HM.out]; exact HX7.out))
        generalize wr.drewN (n1 + nq) = W8 at *
        generalize hoo : oth src more t.e = ot at *
        have HOO := hid hoo
        clear hoo hno hle hle2 hgt hgt2 hs0 hs1 hne q3 q4 k1
        refine (scan_any ot W8 (HV.out.low HW.out)).mono ?_
        rintro e W9 ⟨l, ⟨tv, h1, rfl, ht⟩ | ⟨N, c1, a1, h1, rfl, _⟩⟩
        rotate_left
        · have HL9 := hid (HW.out.trans (l.mono HW.out.size))
          clear l
          unfold fv
          go_wp2_with fail
          go_ret
          exact ⟨rfl, HL9.out⟩
        have HL9 := hid (HW.out.trans (l.mono HW.out.size))
        have HX9 := hid ((l.block _ (lt_blk HX8.out)).trans HX8.out)
        have HPO := hid (HOT.out ot HPB.out.1 HPB.out.2 h1)
        clear l h1 ht
        go_wp2_with fail
        refine (parse_any ot W9 (HV.out.low HL9.out)).mono ?_
        rintro e WA ⟨hp, l2⟩
        obtain ⟨va2, vn2, vc2, oa2, on2, oc2, er2, rfl, hrd⟩ := par_read hp
        rw [rdc_of HPO.out] at hrd
        have HRD2 := hid hrd
        have HLA := hid (HL9.out.trans (l2.mono HL9.out.size))
        have HXA := hid ((l2.block _ (lt_blk HX9.out)).trans HX9.out)
        clear hp l2 hrd
        dsimp only at HRD2
        rw [show ((120 : Nat) : Int) = 120 from rfl, ← HCS.out] at HRD2
        go_upto_region 21 with fail
        have HBB := hid (belowA WA (.cells #[.slice va2 vn2 vc2] 25))
        have HLB := hid (HLA.out.trans (HBB.out.mono HLA.out.size))
        have HXB := hid ((HBB.out.block _ (lt_blk HXA.out)).trans HXA.out)
        have HDD := hid (show Below WA.heap.size WA (WA.alloc (.cells #[.slice va2 vn2 vc2] 25)).drew from HBB.out.drew)
        have HLD := hid (show Below w.heap.size w (WA.alloc (.cells #[.slice va2 vn2 vc2] 25)).drew from HLB.out.drew)
        have HXD := hid (show (WA.alloc (.cells #[.slice va2 vn2 vc2] 25)).drew.heap[b8]? = some (.cells cs 35 (0, 0)) from HXB.out)
        refine wp_region_held_drew (S := (fun Y => Hid (Y.heap[b8]? = some (.cells cs 35 (0, 0))))) (by kernel_rfl) ?_ (fun hHeld => ?_)
        · exact HXD
        generalize (WA.alloc (.cells #[.slice va2 vn2 vc2] 25)).drew = Z at *
        refine wpAnyH_take (i := 0) (oi := { dst := some 103, op := Op.move (Operand.tmp 17), type := 28, pos := "law.go:313", after := #[], guard := none }) (v := ?_) rfl (by kernel_rfl) (by kernel_rfl) (by kernel_rfl) (fun _ _ _ h => h) (Or.inl ⟨by rfl, ?_⟩) (by assumption) ?_
        rotate_left
        · (intro w hSw; (try dsimp only at hSw); go_simp; try with_reducible rfl)
        try simp only [Act.put, List.setIfInBounds_toArray, List.set_cons_zero, List.set_cons_succ]
        refine wpAnyH_take (i := 2) (oi := { dst := some 105, op := Op.load 35 (Operand.tmp 8), type := 35, pos := "law.go:313", after := #[], guard := none }) (v := .agg cs) rfl (by kernel_rfl) (by kernel_rfl) (by kernel_rfl) (fun _ _ _ h => h) (yields_row (by first | rfl | kernel_rfl) _ rfl b8 rfl cs HC9.out) (by assumption) ?_
        try simp only [Act.put, List.setIfInBounds_toArray, List.set_cons_zero, List.set_cons_succ]
        refine wpAnyH_ready (rs := [1]) (by kernel_rfl) (by simp) ?_
        refine AllReadyH.cons (o := { dst := some 104, op := Op.call { callee := Callee.value (Operand.func 12), args := #[Operand.tmp 103], argTypes := #[28] }, type := 35, pos := "law.go:313", after := #[{ on := 0, ground := Ground.data }], guard := none }) rfl (fun K hK => ?_) AllReadyH.nil
        go_simp
        refine (HRD2.out Z HDD.out).mono ?_
        rintro e Y ⟨rfl, l⟩
        have HLY := hid (HLD.out.trans (l.mono HLD.out.size))
        have HXY := hid ((l.block _ (lt_blk HXD.out)).trans HXD.out)
        clear l
        refine hK.out _ _ ?_ (fun hHeld => ?_)
        · exact HXY
        clear hK K
        try simp only [Act.put, List.setIfInBounds_toArray, List.set_cons_zero, List.set_cons_succ]
        have hrun := HRUN.out
        refine wpAnyH_take (i := 3) (oi := { dst := some 106, op := Op.binOp BinOp.eql 35 (Operand.tmp 104) (Operand.tmp 105) 35, type := 4, pos := "law.go:313", after := #[{ on := 1, ground := Ground.data }, { on := 2, ground := Ground.data }], guard := none }) (v := ?_) rfl (by kernel_rfl) (by kernel_rfl) (by kernel_rfl) (fun _ _ _ h => h) (Or.inl ⟨by rfl, ?_⟩) (by assumption) ?_
        rotate_left
        · (intro w hSw; (try dsimp only at hSw); go_simp; try with_reducible rfl)
        try simp only [Act.put, List.setIfInBounds_toArray, List.set_cons_zero, List.set_cons_succ]
        refine wpAnyH_ready (rs := [4]) (by kernel_rfl) (by simp) ?_
        refine AllReadyH.cons (o := { dst := some 4, op := Op.assign (Operand.tmp 106), type := 4, pos := "law.go:313", after := #[{ on := 3, ground := Ground.data }, { on := 1, ground := Ground.chain }, { on := 0, ground := Ground.phase }, { on := 1, ground := Ground.phase }, { on := 2, ground := Ground.phase }, { on := 3, ground := Ground.phase }], guard := none }) rfl (fun K hK => ?_) AllReadyH.nil
        go_simp
        refine hK.out _ _ ?_ (fun hHeld => ?_)
        · exact HXY
        clear hK K hHeld
        try simp only [Act.put, List.setIfInBounds_toArray, List.set_cons_zero, List.set_cons_succ]
        refine wpAnyH_done (by kernel_rfl) ?_ _
        go_wp2_with fail
        go_ret
        exact ⟨rfl, HLY.out⟩
      · have hne : ((t.a : Int) != X) = true := by simp [hx]
        have hki : k ≠ i0 := fun e => hx (by rw [HTE.out, e]; exact HX0.out.symm)
        clear hx
        go_wp2_with fail
        go_quiet (fail)
        go_wp2_with fail
        refine ⟨⟨k + 1, by omega, by go_num, hid ⟨m0 + nq, by rw [HM.out, World.drewN_drewN]⟩⟩, by simp [intOf]; omega⟩
  · subst hcc
    have HPR := hid (rdc_inv (src := src) (n := 122) (by decide) (by rw [← HC.out]; rfl))
    rw [← HX.out] at HPR
    have HSC := hid (parR_scan HPR.out (by decide))
    obtain ⟨i0, hi0, hx0, hae, hes, huq, hoth⟩ := rest_pure HPR.out HSC.out (by decide)
    have HX0 := hid hx0
    have HAE := hid (And.intro hae hes)
    have HUQ := hid huq
    have HOT := hid hoth
    have HI0 := hid hi0
    clear hx0 hae hes huq hoth hi0
    go_enter Tryz.func7, Tryz.ntmps7
    go_wp2_with fail
    refine (wakes_any w HV.out).mono ?_
    rintro e W1 ⟨rfl, l1⟩
    have HL1 := hid l1
    clear l1
    go_wp2_with fail
    refine (parse_any src W1 (HV.out.low HL1.out)).mono ?_
    rintro e W2 ⟨hp, l2⟩
    obtain ⟨va, vn, vc, oa, on, oc, er, rfl, hrd⟩ := par_read hp
    have HRD := hid hrd
    have HL2 := hid (HL1.out.trans (l2.mono HL1.out.size))
    clear hp l2 hrd
    rw [← HC.out, ← HX.out, ← HCS.out] at HRD
    go_upto_region 4 with fail
    have HB3 := hid (belowA W2 (.cells #[.slice va vn vc] 25))
    generalize W2.alloc (.cells #[.slice va vn vc] 25) = W3 at *
    have HL3 := hid (HL2.out.trans (HB3.out.mono HL2.out.size))
    go_upto_region 4 with fail
    refine wp_region_lit ?_
    refine wpList_plain rfl fun K hK => ?_
    have HK := hid hK
    clear hK
    go_simp
    (try rw [e1])
    refine HK.out _ _ ?_
    clear HK
    try simp only [Act.put, List.setIfInBounds_toArray, List.set_cons_zero, List.set_cons_succ]
    refine wpList_step fun K hK => ?_
    rw [if_pos (by first | rfl | kernel_rfl)]
    go_simp
    refine (HRD.out W3 HB3.out).mono ?_
    rintro e W4 ⟨rfl, l⟩
    refine hK _ _ ?_
    clear hK K
    try simp only [Act.put, List.setIfInBounds_toArray, List.set_cons_zero, List.set_cons_succ]
    refine wpList_plain rfl fun K hK => ?_
    have HK := hid hK
    clear hK
    go_simp
    (try rw [e1])
    refine HK.out _ _ ?_
    clear HK
    try simp only [Act.put, List.setIfInBounds_toArray, List.set_cons_zero, List.set_cons_succ]
    have HX5 := hid (heap_alloc_new W4 (.cells ZC 35))
    have HL4 := hid (HL3.out.trans (l.mono HL3.out.size))
    have HL5 := hid (HL4.out.trans ((belowA W4 (.cells ZC 35)).mono HL4.out.size))
    have HGE := hid HL4.out.size
    clear l
    refine wpList_store_row rfl 35 _ _ rfl W4.heap.size cs rfl rfl 35 ZC HX5.out (by rw [HC9.out]; exact info53) (by rw [HC9.out, HZ9.out]) (by rw [HCS.out]; kernel_rfl) ?_
    try simp only [Act.put, List.setIfInBounds_toArray, List.set_cons_zero, List.set_cons_succ]
    have HX6 := hid (setRow_heap _ _ ZC cs _ _ HX5.out)
    have HL6 := hid (below_row HL5.out W4.heap.size cs HGE.out)
    clear HX5 HL5
    generalize (W4.alloc (.cells ZC 35)).setRow W4.heap.size cs = W6 at *
    generalize W4.heap.size = b8 at *
    have k0 : W6.cell? ⟨b8, 0, none⟩ = some (.int .i64 122) := (cell_of_row _ _ 0 _ _ _ HX6.out).trans HC0.out
    go_wp2_with fail
    refine (scan_any src W6 (HV.out.low HL6.out)).mono ?_
    rintro e W7 ⟨l, ⟨tv, h1, rfl, ht⟩ | ⟨N, c1, a1, h1, _⟩⟩
    rotate_left
    · rw [HSC.out] at h1
      cases h1
    clear h1 k0
    obtain ⟨g, cp, rfl, hgl, htc⟩ := own_tok ht (by have := HI0.out; omega)
    have HX7 := hid ((l.block _ (lt_blk HX6.out)).trans HX6.out)
    have HL7 := hid (HL6.out.trans (l.mono HL6.out.size))
    have HTC := hid htc
    have HGL := hid hgl
    clear l ht htc hgl
    obtain ⟨T, hT⟩ : ∃ T, T = (scanT src).1 := ⟨_, rfl⟩
    have HTL := hid (show T.length ≤ 4097 by rw [hT]; exact scanT_len src)
    rw [← hT] at HX0 HAE HUQ HOT HI0 HTC ⊢
    obtain ⟨L, hL⟩ : ∃ L, L = T.length := ⟨_, rfl⟩
    have HLL := hid hL
    rw [← hL] at HTC HI0 HTL HUQ ⊢
    have hLm : L ≤ maxLen := by have := HTL.out; unfold maxLen; omega
    clear hL hT
    go_wp2_with fail
    go_loopw [11] (fun i wr => ∃ k : Nat, k ≤ i0 ∧ i = .int .i64 k ∧ Hid (∃ m, wr = W7.drewN m)) (fun i _ => i0 + 1 - (intOf i).toNat)
    case atStart => exact ⟨0, Nat.zero_le _, rfl, hid ⟨0, rfl⟩⟩
    case round =>
      obtain ⟨k, hk, rfl, HB⟩ := hrel
      obtain ⟨m0, hm0⟩ := HB.out
      have hkL : k < L := by have := HI0.out; omega
      have HM := hid hm0
      clear HB
      have hkb : (k : Int) ≤ 4097 := by have := HTL.out; omega
      have q3 : wr.cell? ⟨g, k * 5 + 3, none⟩ = some (.int .i64 ((tk T k).a : Int)) := by rw [hm0]; exact HTC.out k 3 hkL (by decide)
      have q4 : wr.cell? ⟨g, k * 5 + 4, none⟩ = some (.int .i64 ((tk T k).e : Int)) := by rw [hm0]; exact HTC.out k 4 hkL (by decide)
      have k1 : wr.cell? ⟨b8, 1, none⟩ = some (.int .i64 X) := by rw [hm0]; exact (cell_of_row _ _ 1 _ _ _ HX7.out).trans HC1.out
      clear hm0
      have HUK := hid (HUQ.out k hkL)
      obtain ⟨t, ht⟩ : ∃ t, t = tk T k := ⟨_, rfl⟩
      have HTE := hid ht
      rw [← ht] at q3 q4 HUK
      clear ht
      have g1 : (k : Int) < (L : Int) := by omega
      have g2 : (0 : Int) ≤ (k : Int) := by omega
      by_cases hx : (t.a : Int) = X
      · have HQ := hid (HUK.out (by have := HX0.out; omega))
        rw [← HQ.out] at HX0 HAE HOT
        have hne : ((t.a : Int) != X) = false := by simp [hx]
        have hle : ¬ (t.e : Int) ≤ X := by have := HAE.out.1; omega
        have hle2 : decide ((t.e : Int) ≤ X) = false := by simp; omega
        have hgt : ¬ (src.size : Int) < (t.e : Int) := by have := HAE.out.2; omega
        have hgt2 : decide ((src.size : Int) < (t.e : Int)) = false := by simp; omega
        have hs0 : (0 : Int) ≤ (t.e : Int) := by omega
        have hs1 : (t.e : Int) ≤ (src.size : Int) := by have := HAE.out.2; omega
        have hno : ¬ 9223372036854775807 < min t.e src.size + 1 + more.size := by have h3 := HS2.out; have h4 := HAE.out.2; have h5 := HS1.out; omega
        clear hx
        go_wp2_with fail
        go_quiet (fail)
        obtain ⟨n1, hn1⟩ : ∃ n1, n1 = nq := ⟨_, rfl⟩
        rw [← hn1]
        clear hn1
        go_wp2_with fail
        go_quiet (fail)
        go_wp2_with fail
        rw [show (src.extract 0 t.e ++ ⟨#[10]⟩ ++ more) = oth src more t.e from rfl]
        have HPB := hid (oth_pre src more t.e HAE.out.2)
        have HW := hid (show Below w.heap.size w (wr.drewN (n1 + nq)) from below_drewN (by rw [HM.out]; exact below_drewN HL7.out _) _)
        have HX8 := hid (show (wr.drewN (n1 + nq)).heap[b8]? = some (.cells cs 35 (0, 0)) from (by rw [HM.out]; exact HX7.out))
        generalize wr.drewN (n1 + nq) = W8 at *
        generalize hoo : oth src more t.e = ot at *
        have HOO := hid hoo
        clear hoo hno hle hle2 hgt hgt2 hs0 hs1 hne q3 q4 k1
        refine (scan_any ot W8 (HV.out.low HW.out)).mono ?_
        rintro e W9 ⟨l, ⟨tv, h1, rfl, ht⟩ | ⟨N, c1, a1, h1, rfl, _⟩⟩
        rotate_left
        · have HL9 := hid (HW.out.trans (l.mono HW.out.size))
          clear l
          unfold fv
          go_wp2_with fail
          go_ret
          exact ⟨rfl, HL9.out⟩
        have HL9 := hid (HW.out.trans (l.mono HW.out.size))
        have HX9 := hid ((l.block _ (lt_blk HX8.out)).trans HX8.out)
        have HPO := hid (HOT.out ot HPB.out.1 HPB.out.2 h1)
        clear l h1 ht
        go_wp2_with fail
        refine (parse_any ot W9 (HV.out.low HL9.out)).mono ?_
        rintro e WA ⟨hp, l2⟩
        obtain ⟨va2, vn2, vc2, oa2, on2, oc2, er2, rfl, hrd⟩ := par_read hp
        rw [rdc_of HPO.out] at hrd
        have HRD2 := hid hrd
        have HLA := hid (HL9.out.trans (l2.mono HL9.out.size))
        have HXA := hid ((l2.block _ (lt_blk HX9.out)).trans HX9.out)
        clear hp l2 hrd
        dsimp only at HRD2
        rw [show ((122 : Nat) : Int) = 122 from rfl, ← HCS.out] at HRD2
        go_upto_region 21 with fail
        have HBB := hid (belowA WA (.cells #[.slice va2 vn2 vc2] 25))
        have HLB := hid (HLA.out.trans (HBB.out.mono HLA.out.size))
        have HXB := hid ((HBB.out.block _ (lt_blk HXA.out)).trans HXA.out)
        have HDD := hid (show Below WA.heap.size WA (WA.alloc (.cells #[.slice va2 vn2 vc2] 25)).drew from HBB.out.drew)
        have HLD := hid (show Below w.heap.size w (WA.alloc (.cells #[.slice va2 vn2 vc2] 25)).drew from HLB.out.drew)
        have HXD := hid (show (WA.alloc (.cells #[.slice va2 vn2 vc2] 25)).drew.heap[b8]? = some (.cells cs 35 (0, 0)) from HXB.out)
        refine wp_region_held_drew (S := (fun Y => Hid (Y.heap[b8]? = some (.cells cs 35 (0, 0))))) (by kernel_rfl) ?_ (fun hHeld => ?_)
        · exact HXD
        generalize (WA.alloc (.cells #[.slice va2 vn2 vc2] 25)).drew = Z at *
        refine wpAnyH_take (i := 0) (oi := { dst := some 103, op := Op.move (Operand.tmp 17), type := 28, pos := "law.go:313", after := #[], guard := none }) (v := ?_) rfl (by kernel_rfl) (by kernel_rfl) (by kernel_rfl) (fun _ _ _ h => h) (Or.inl ⟨by rfl, ?_⟩) (by assumption) ?_
        rotate_left
        · (intro w hSw; (try dsimp only at hSw); go_simp; try with_reducible rfl)
        try simp only [Act.put, List.setIfInBounds_toArray, List.set_cons_zero, List.set_cons_succ]
        refine wpAnyH_take (i := 2) (oi := { dst := some 105, op := Op.load 35 (Operand.tmp 8), type := 35, pos := "law.go:313", after := #[], guard := none }) (v := .agg cs) rfl (by kernel_rfl) (by kernel_rfl) (by kernel_rfl) (fun _ _ _ h => h) (yields_row (by first | rfl | kernel_rfl) _ rfl b8 rfl cs HC9.out) (by assumption) ?_
        try simp only [Act.put, List.setIfInBounds_toArray, List.set_cons_zero, List.set_cons_succ]
        refine wpAnyH_ready (rs := [1]) (by kernel_rfl) (by simp) ?_
        refine AllReadyH.cons (o := { dst := some 104, op := Op.call { callee := Callee.value (Operand.func 12), args := #[Operand.tmp 103], argTypes := #[28] }, type := 35, pos := "law.go:313", after := #[{ on := 0, ground := Ground.data }], guard := none }) rfl (fun K hK => ?_) AllReadyH.nil
        go_simp
        refine (HRD2.out Z HDD.out).mono ?_
        rintro e Y ⟨rfl, l⟩
        have HLY := hid (HLD.out.trans (l.mono HLD.out.size))
        have HXY := hid ((l.block _ (lt_blk HXD.out)).trans HXD.out)
        clear l
        refine hK.out _ _ ?_ (fun hHeld => ?_)
        · exact HXY
        clear hK K
        try simp only [Act.put, List.setIfInBounds_toArray, List.set_cons_zero, List.set_cons_succ]
        have hrun := HRUN.out
        refine wpAnyH_take (i := 3) (oi := { dst := some 106, op := Op.binOp BinOp.eql 35 (Operand.tmp 104) (Operand.tmp 105) 35, type := 4, pos := "law.go:313", after := #[{ on := 1, ground := Ground.data }, { on := 2, ground := Ground.data }], guard := none }) (v := ?_) rfl (by kernel_rfl) (by kernel_rfl) (by kernel_rfl) (fun _ _ _ h => h) (Or.inl ⟨by rfl, ?_⟩) (by assumption) ?_
        rotate_left
        · (intro w hSw; (try dsimp only at hSw); go_simp; try with_reducible rfl)
        try simp only [Act.put, List.setIfInBounds_toArray, List.set_cons_zero, List.set_cons_succ]
        refine wpAnyH_ready (rs := [4]) (by kernel_rfl) (by simp) ?_
        refine AllReadyH.cons (o := { dst := some 4, op := Op.assign (Operand.tmp 106), type := 4, pos := "law.go:313", after := #[{ on := 3, ground := Ground.data }, { on := 1, ground := Ground.chain }, { on := 0, ground := Ground.phase }, { on := 1, ground := Ground.phase }, { on := 2, ground := Ground.phase }, { on := 3, ground := Ground.phase }], guard := none }) rfl (fun K hK => ?_) AllReadyH.nil
        go_simp
        refine hK.out _ _ ?_ (fun hHeld => ?_)
        · exact HXY
        clear hK K hHeld
        try simp only [Act.put, List.setIfInBounds_toArray, List.set_cons_zero, List.set_cons_succ]
        refine wpAnyH_done (by kernel_rfl) ?_ _
        go_wp2_with fail
        go_ret
        exact ⟨rfl, HLY.out⟩
      · have hne : ((t.a : Int) != X) = true := by simp [hx]
        have hki : k ≠ i0 := fun e => hx (by rw [HTE.out, e]; exact HX0.out.symm)
        clear hx
        go_wp2_with fail
        go_quiet (fail)
        go_wp2_with fail
        refine ⟨⟨k + 1, by omega, by go_num, hid ⟨m0 + nq, by rw [HM.out, World.drewN_drewN]⟩⟩, by simp [intOf]; omega⟩
  · subst hcc
    have HPR := hid (rdc_inv (src := src) (n := 124) (by decide) (by rw [← HC.out]; rfl))
    rw [← HX.out] at HPR
    have HSC := hid (parR_scan HPR.out (by decide))
    obtain ⟨i0, hi0, hx0, hae, hes, huq, hoth⟩ := rest_pure HPR.out HSC.out (by decide)
    have HX0 := hid hx0
    have HAE := hid (And.intro hae hes)
    have HUQ := hid huq
    have HOT := hid hoth
    have HI0 := hid hi0
    clear hx0 hae hes huq hoth hi0
    go_enter Tryz.func7, Tryz.ntmps7
    go_wp2_with fail
    refine (wakes_any w HV.out).mono ?_
    rintro e W1 ⟨rfl, l1⟩
    have HL1 := hid l1
    clear l1
    go_wp2_with fail
    refine (parse_any src W1 (HV.out.low HL1.out)).mono ?_
    rintro e W2 ⟨hp, l2⟩
    obtain ⟨va, vn, vc, oa, on, oc, er, rfl, hrd⟩ := par_read hp
    have HRD := hid hrd
    have HL2 := hid (HL1.out.trans (l2.mono HL1.out.size))
    clear hp l2 hrd
    rw [← HC.out, ← HX.out, ← HCS.out] at HRD
    go_upto_region 4 with fail
    have HB3 := hid (belowA W2 (.cells #[.slice va vn vc] 25))
    generalize W2.alloc (.cells #[.slice va vn vc] 25) = W3 at *
    have HL3 := hid (HL2.out.trans (HB3.out.mono HL2.out.size))
    go_upto_region 4 with fail
    refine wp_region_lit ?_
    refine wpList_plain rfl fun K hK => ?_
    have HK := hid hK
    clear hK
    go_simp
    (try rw [e1])
    refine HK.out _ _ ?_
    clear HK
    try simp only [Act.put, List.setIfInBounds_toArray, List.set_cons_zero, List.set_cons_succ]
    refine wpList_step fun K hK => ?_
    rw [if_pos (by first | rfl | kernel_rfl)]
    go_simp
    refine (HRD.out W3 HB3.out).mono ?_
    rintro e W4 ⟨rfl, l⟩
    refine hK _ _ ?_
    clear hK K
    try simp only [Act.put, List.setIfInBounds_toArray, List.set_cons_zero, List.set_cons_succ]
    refine wpList_plain rfl fun K hK => ?_
    have HK := hid hK
    clear hK
    go_simp
    (try rw [e1])
    refine HK.out _ _ ?_
    clear HK
    try simp only [Act.put, List.setIfInBounds_toArray, List.set_cons_zero, List.set_cons_succ]
    have HX5 := hid (heap_alloc_new W4 (.cells ZC 35))
    have HL4 := hid (HL3.out.trans (l.mono HL3.out.size))
    have HL5 := hid (HL4.out.trans ((belowA W4 (.cells ZC 35)).mono HL4.out.size))
    have HGE := hid HL4.out.size
    clear l
    refine wpList_store_row rfl 35 _ _ rfl W4.heap.size cs rfl rfl 35 ZC HX5.out (by rw [HC9.out]; exact info53) (by rw [HC9.out, HZ9.out]) (by rw [HCS.out]; kernel_rfl) ?_
    try simp only [Act.put, List.setIfInBounds_toArray, List.set_cons_zero, List.set_cons_succ]
    have HX6 := hid (setRow_heap _ _ ZC cs _ _ HX5.out)
    have HL6 := hid (below_row HL5.out W4.heap.size cs HGE.out)
    clear HX5 HL5
    generalize (W4.alloc (.cells ZC 35)).setRow W4.heap.size cs = W6 at *
    generalize W4.heap.size = b8 at *
    have k0 : W6.cell? ⟨b8, 0, none⟩ = some (.int .i64 124) := (cell_of_row _ _ 0 _ _ _ HX6.out).trans HC0.out
    go_wp2_with fail
    refine (scan_any src W6 (HV.out.low HL6.out)).mono ?_
    rintro e W7 ⟨l, ⟨tv, h1, rfl, ht⟩ | ⟨N, c1, a1, h1, _⟩⟩
    rotate_left
    · rw [HSC.out] at h1
      cases h1
    clear h1 k0
    obtain ⟨g, cp, rfl, hgl, htc⟩ := own_tok ht (by have := HI0.out; omega)
    have HX7 := hid ((l.block _ (lt_blk HX6.out)).trans HX6.out)
    have HL7 := hid (HL6.out.trans (l.mono HL6.out.size))
    have HTC := hid htc
    have HGL := hid hgl
    clear l ht htc hgl
    obtain ⟨T, hT⟩ : ∃ T, T = (scanT src).1 := ⟨_, rfl⟩
    have HTL := hid (show T.length ≤ 4097 by rw [hT]; exact scanT_len src)
    rw [← hT] at HX0 HAE HUQ HOT HI0 HTC ⊢
    obtain ⟨L, hL⟩ : ∃ L, L = T.length := ⟨_, rfl⟩
    have HLL := hid hL
    rw [← hL] at HTC HI0 HTL HUQ ⊢
    have hLm : L ≤ maxLen := by have := HTL.out; unfold maxLen; omega
    clear hL hT
    go_wp2_with fail
    go_loopw [11] (fun i wr => ∃ k : Nat, k ≤ i0 ∧ i = .int .i64 k ∧ Hid (∃ m, wr = W7.drewN m)) (fun i _ => i0 + 1 - (intOf i).toNat)
    case atStart => exact ⟨0, Nat.zero_le _, rfl, hid ⟨0, rfl⟩⟩
    case round =>
      obtain ⟨k, hk, rfl, HB⟩ := hrel
      obtain ⟨m0, hm0⟩ := HB.out
      have hkL : k < L := by have := HI0.out; omega
      have HM := hid hm0
      clear HB
      have hkb : (k : Int) ≤ 4097 := by have := HTL.out; omega
      have q3 : wr.cell? ⟨g, k * 5 + 3, none⟩ = some (.int .i64 ((tk T k).a : Int)) := by rw [hm0]; exact HTC.out k 3 hkL (by decide)
      have q4 : wr.cell? ⟨g, k * 5 + 4, none⟩ = some (.int .i64 ((tk T k).e : Int)) := by rw [hm0]; exact HTC.out k 4 hkL (by decide)
      have k1 : wr.cell? ⟨b8, 1, none⟩ = some (.int .i64 X) := by rw [hm0]; exact (cell_of_row _ _ 1 _ _ _ HX7.out).trans HC1.out
      clear hm0
      have HUK := hid (HUQ.out k hkL)
      obtain ⟨t, ht⟩ : ∃ t, t = tk T k := ⟨_, rfl⟩
      have HTE := hid ht
      rw [← ht] at q3 q4 HUK
      clear ht
      have g1 : (k : Int) < (L : Int) := by omega
      have g2 : (0 : Int) ≤ (k : Int) := by omega
      by_cases hx : (t.a : Int) = X
      · have HQ := hid (HUK.out (by have := HX0.out; omega))
        rw [← HQ.out] at HX0 HAE HOT
        have hne : ((t.a : Int) != X) = false := by simp [hx]
        have hle : ¬ (t.e : Int) ≤ X := by have := HAE.out.1; omega
        have hle2 : decide ((t.e : Int) ≤ X) = false := by simp; omega
        have hgt : ¬ (src.size : Int) < (t.e : Int) := by have := HAE.out.2; omega
        have hgt2 : decide ((src.size : Int) < (t.e : Int)) = false := by simp; omega
        have hs0 : (0 : Int) ≤ (t.e : Int) := by omega
        have hs1 : (t.e : Int) ≤ (src.size : Int) := by have := HAE.out.2; omega
        have hno : ¬ 9223372036854775807 < min t.e src.size + 1 + more.size := by have h3 := HS2.out; have h4 := HAE.out.2; have h5 := HS1.out; omega
        clear hx
        go_wp2_with fail
        go_quiet (fail)
        obtain ⟨n1, hn1⟩ : ∃ n1, n1 = nq := ⟨_, rfl⟩
        rw [← hn1]
        clear hn1
        go_wp2_with fail
        go_quiet (fail)
        go_wp2_with fail
        rw [show (src.extract 0 t.e ++ ⟨#[10]⟩ ++ more) = oth src more t.e from rfl]
        have HPB := hid (oth_pre src more t.e HAE.out.2)
        have HW := hid (show Below w.heap.size w (wr.drewN (n1 + nq)) from below_drewN (by rw [HM.out]; exact below_drewN HL7.out _) _)
        have HX8 := hid (show (wr.drewN (n1 + nq)).heap[b8]? = some (.cells cs 35 (0, 0)) from (by rw [HM.out]; exact HX7.out))
        generalize wr.drewN (n1 + nq) = W8 at *
        generalize hoo : oth src more t.e = ot at *
        have HOO := hid hoo
        clear hoo hno hle hle2 hgt hgt2 hs0 hs1 hne q3 q4 k1
        refine (scan_any ot W8 (HV.out.low HW.out)).mono ?_
        rintro e W9 ⟨l, ⟨tv, h1, rfl, ht⟩ | ⟨N, c1, a1, h1, rfl, _⟩⟩
        rotate_left
        · have HL9 := hid (HW.out.trans (l.mono HW.out.size))
          clear l
          unfold fv
          go_wp2_with fail
          go_ret
          exact ⟨rfl, HL9.out⟩
        have HL9 := hid (HW.out.trans (l.mono HW.out.size))
        have HX9 := hid ((l.block _ (lt_blk HX8.out)).trans HX8.out)
        have HPO := hid (HOT.out ot HPB.out.1 HPB.out.2 h1)
        clear l h1 ht
        go_wp2_with fail
        refine (parse_any ot W9 (HV.out.low HL9.out)).mono ?_
        rintro e WA ⟨hp, l2⟩
        obtain ⟨va2, vn2, vc2, oa2, on2, oc2, er2, rfl, hrd⟩ := par_read hp
        rw [rdc_of HPO.out] at hrd
        have HRD2 := hid hrd
        have HLA := hid (HL9.out.trans (l2.mono HL9.out.size))
        have HXA := hid ((l2.block _ (lt_blk HX9.out)).trans HX9.out)
        clear hp l2 hrd
        dsimp only at HRD2
        rw [show ((124 : Nat) : Int) = 124 from rfl, ← HCS.out] at HRD2
        go_upto_region 21 with fail
        have HBB := hid (belowA WA (.cells #[.slice va2 vn2 vc2] 25))
        have HLB := hid (HLA.out.trans (HBB.out.mono HLA.out.size))
        have HXB := hid ((HBB.out.block _ (lt_blk HXA.out)).trans HXA.out)
        have HDD := hid (show Below WA.heap.size WA (WA.alloc (.cells #[.slice va2 vn2 vc2] 25)).drew from HBB.out.drew)
        have HLD := hid (show Below w.heap.size w (WA.alloc (.cells #[.slice va2 vn2 vc2] 25)).drew from HLB.out.drew)
        have HXD := hid (show (WA.alloc (.cells #[.slice va2 vn2 vc2] 25)).drew.heap[b8]? = some (.cells cs 35 (0, 0)) from HXB.out)
        refine wp_region_held_drew (S := (fun Y => Hid (Y.heap[b8]? = some (.cells cs 35 (0, 0))))) (by kernel_rfl) ?_ (fun hHeld => ?_)
        · exact HXD
        generalize (WA.alloc (.cells #[.slice va2 vn2 vc2] 25)).drew = Z at *
        refine wpAnyH_take (i := 0) (oi := { dst := some 103, op := Op.move (Operand.tmp 17), type := 28, pos := "law.go:313", after := #[], guard := none }) (v := ?_) rfl (by kernel_rfl) (by kernel_rfl) (by kernel_rfl) (fun _ _ _ h => h) (Or.inl ⟨by rfl, ?_⟩) (by assumption) ?_
        rotate_left
        · (intro w hSw; (try dsimp only at hSw); go_simp; try with_reducible rfl)
        try simp only [Act.put, List.setIfInBounds_toArray, List.set_cons_zero, List.set_cons_succ]
        refine wpAnyH_take (i := 2) (oi := { dst := some 105, op := Op.load 35 (Operand.tmp 8), type := 35, pos := "law.go:313", after := #[], guard := none }) (v := .agg cs) rfl (by kernel_rfl) (by kernel_rfl) (by kernel_rfl) (fun _ _ _ h => h) (yields_row (by first | rfl | kernel_rfl) _ rfl b8 rfl cs HC9.out) (by assumption) ?_
        try simp only [Act.put, List.setIfInBounds_toArray, List.set_cons_zero, List.set_cons_succ]
        refine wpAnyH_ready (rs := [1]) (by kernel_rfl) (by simp) ?_
        refine AllReadyH.cons (o := { dst := some 104, op := Op.call { callee := Callee.value (Operand.func 12), args := #[Operand.tmp 103], argTypes := #[28] }, type := 35, pos := "law.go:313", after := #[{ on := 0, ground := Ground.data }], guard := none }) rfl (fun K hK => ?_) AllReadyH.nil
        go_simp
        refine (HRD2.out Z HDD.out).mono ?_
        rintro e Y ⟨rfl, l⟩
        have HLY := hid (HLD.out.trans (l.mono HLD.out.size))
        have HXY := hid ((l.block _ (lt_blk HXD.out)).trans HXD.out)
        clear l
        refine hK.out _ _ ?_ (fun hHeld => ?_)
        · exact HXY
        clear hK K
        try simp only [Act.put, List.setIfInBounds_toArray, List.set_cons_zero, List.set_cons_succ]
        have hrun := HRUN.out
        refine wpAnyH_take (i := 3) (oi := { dst := some 106, op := Op.binOp BinOp.eql 35 (Operand.tmp 104) (Operand.tmp 105) 35, type := 4, pos := "law.go:313", after := #[{ on := 1, ground := Ground.data }, { on := 2, ground := Ground.data }], guard := none }) (v := ?_) rfl (by kernel_rfl) (by kernel_rfl) (by kernel_rfl) (fun _ _ _ h => h) (Or.inl ⟨by rfl, ?_⟩) (by assumption) ?_
        rotate_left
        · (intro w hSw; (try dsimp only at hSw); go_simp; try with_reducible rfl)
        try simp only [Act.put, List.setIfInBounds_toArray, List.set_cons_zero, List.set_cons_succ]
        refine wpAnyH_ready (rs := [4]) (by kernel_rfl) (by simp) ?_
        refine AllReadyH.cons (o := { dst := some 4, op := Op.assign (Operand.tmp 106), type := 4, pos := "law.go:313", after := #[{ on := 3, ground := Ground.data }, { on := 1, ground := Ground.chain }, { on := 0, ground := Ground.phase }, { on := 1, ground := Ground.phase }, { on := 2, ground := Ground.phase }, { on := 3, ground := Ground.phase }], guard := none }) rfl (fun K hK => ?_) AllReadyH.nil
        go_simp
        refine hK.out _ _ ?_ (fun hHeld => ?_)
        · exact HXY
        clear hK K hHeld
        try simp only [Act.put, List.setIfInBounds_toArray, List.set_cons_zero, List.set_cons_succ]
        refine wpAnyH_done (by kernel_rfl) ?_ _
        go_wp2_with fail
        go_ret
        exact ⟨rfl, HLY.out⟩
      · have hne : ((t.a : Int) != X) = true := by simp [hx]
        have hki : k ≠ i0 := fun e => hx (by rw [HTE.out, e]; exact HX0.out.symm)
        clear hx
        go_wp2_with fail
        go_quiet (fail)
        go_wp2_with fail
        refine ⟨⟨k + 1, by omega, by go_num, hid ⟨m0 + nq, by rw [HM.out, World.drewN_drewN]⟩⟩, by simp [intOf]; omega⟩
end Go.Proofs.YtcldglilhhhdoaaGreatDoor.L
