import Derived.Test.YtkagdmhijjfnnaaDoorSr1
import Derived.Test.YtkagdmhijjfnnaaDoorSr2
namespace Go.Proofs.YtkagdmhijjfnnaaDoor
open Go.RowKit Go.Shelf Bs
set_option linter.unusedVariables false
attribute [local go_sem] Oper.semAt_some
set_option maxHeartbeats 16000000 in
set_option maxRecDepth 100000 in
theorem snaps_law (n : Nat) (vA vB vC : Value) (zA zB zC : List Int) (w : World) (ht : Tab w) (hn : n ≤ 65536) (iA : Ints w vA zA) (iB : Ints w vB zB) (iC : Ints w vC zC) (rA : zA.length * 8 ≤ 140737488351232) (rB : zB.length * 8 ≤ 140737488351232) (rC : zC.length * 8 ≤ 140737488351232) :
    Calls Tryd.prog 7 #[.agg #[.int .i64 n, vA, vB, vC]] w fun e w' => e = .returned (.bool true) ∧ Below w.heap.size w w' := by
  have hmx : Tryd.prog.follows .mixedOrders = true := by kernel_rfl
  have HT := hid ht
  have HA := hid iA
  have HBB := hid iB
  have HCC := hid iC
  have hn0 : 0 ≤ (n : Int) := by omega
  have hn1 : (n : Int) ≤ 65536 := by omega
  have HRA := hid rA
  have HRB := hid rB
  have HRC := hid rC
  clear ht iA rA iB rB iC rC
  generalize hQ : (fun (e : Ending) (w' : World) => e = .returned (.bool true) ∧ Below w.heap.size w w') = Q
  have HQ := hid hQ
  clear hQ
  refine (callsIn_wide (n := 6)).1 ?_
  refine callsIn_of_wp_marks Tryd.func7 rfl trivial ?_ rfl
  simp only [Tryd.ntmps7, List.size_toArray, List.length_cons, List.length_nil, Nat.reduceAdd, Nat.reduceSub, Array.replicate_succ, Array.replicate_zero, List.push_toArray, List.append_toArray, List.nil_append, List.cons_append]
  gi_wp2_with fail
  have b1 : Below w.heap.size w ((w.alloc (.cells #[.int .i64 n, vA, vB, vC] 40)).alloc (.cells #[.bool false] 4)) := ((Below.refl _ w).alloc (Nat.le_refl _) _).alloc (by simp) _
  have x1 : XAll ((w.alloc (.cells #[.int .i64 n, vA, vB, vC] 40)).alloc (.cells #[.bool false] 4)) w.heap.size n vA vB vC :=
    (show XAll (w.alloc (.cells #[.int .i64 n, vA, vB, vC] 40)) w.heap.size n vA vB vC from ⟨by simp, by simp, by simp, by simp⟩).low (lowAlloc _ _)
  have r1 : Boxed ((w.alloc (.cells #[.int .i64 n, vA, vB, vC] 40)).alloc (.cells #[.bool false] 4)) (w.heap.size + 1) 4 (.bool false) := by
    have := Boxed.new (w.alloc (.cells #[.int .i64 n, vA, vB, vC] 40)) 4 (.bool false)
    simpa using this
  have z1 : ((w.alloc (.cells #[.int .i64 n, vA, vB, vC] 40)).alloc (.cells #[.bool false] 4)).heap.size = w.heap.size + 2 := by simp
  generalize (w.alloc (.cells #[.int .i64 n, vA, vB, vC] 40)).alloc (.cells #[.bool false] 4) = w1 at *
  refine ⟨trivial, ?_⟩
  refine CallsIn.mono (callsIn_wide.2 (awake_any w1 (HT.out.low b1 HT.out.pos))) ?_
  rintro e w2 ⟨rfl, h2⟩
  have B2 := hid (b1.trans (h2.mono b1.size))
  have X2 := hid (x1.low h2)
  have R2 := hid (boxed_low r1 h2)
  have Z2 := hid (show w.heap.size + 2 ≤ w2.heap.size by rw [← z1]; exact h2.size)
  have hx0 := X2.out.c0
  have hx1 := X2.out.c1
  clear b1 x1 r1 z1 h2
  gi_wp2_with fail
  refine ⟨trivial, ?_⟩
  refine CallsIn.mono (callsIn_wide.2 (sized_yes _ _ hn0 hn1)) ?_
  rintro e w3 ⟨rfl, hww⟩
  subst hww
  gi_wp2_with fail
  refine ⟨trivial, ?_⟩
  refine CallsIn.mono (callsIn_wide.2 (of_new n vA zA _ hn HRA.out (HA.out.low B2.out))) ?_
  rintro e w4 ⟨p, q, rfl, f4⟩
  have S4 := hid f4.at'
  have X4 := hid (X2.out.low f4.low)
  have R4 := hid (boxed_low R2.out f4.low)
  have B4 := hid (belowT B2.out f4.low)
  have P4 := hid (Nat.le_trans Z2.out f4.hq)
  have P4' := hid (Nat.le_trans Z2.out f4.hp)
  clear f4 X2 R2 B2 Z2 hx0 hx1
  have bs4 := (Boxed.new w4 26 (.pointer (some ⟨p, 0, none⟩)))
  have hbc := bs4.cell
  have l5 := lowAlloc w4 (.cells #[.pointer (some ⟨p, 0, none⟩)] 26)
  have S5 := hid (S4.out.low l5)
  have X5 := hid (X4.out.low l5)
  have R5 := hid (boxed_low R4.out l5)
  have B5 := hid (belowT B4.out l5)
  have BS5 := hid bs4
  obtain ⟨sb, hsb⟩ : ∃ sb, sb = w4.heap.size := ⟨_, rfl⟩
  have Q5 := hid (show q < sb by rw [hsb]; exact S4.out.qlt)
  have Q5' := hid (show p < sb by rw [hsb]; exact S4.out.plt)
  rw [← hsb] at BS5
  have Z5 := hid (show (w4.alloc (.cells #[.pointer (some ⟨p, 0, none⟩)] 26)).heap.size = sb + 1 by rw [hsb]; simp)
  clear bs4 l5 S4 X4 R4 B4
  gi_wp2_with fail
  rw [← hsb]
  clear hsb hbc
  generalize w4.alloc (.cells #[.pointer (some ⟨p, 0, none⟩)] 26) = w5 at *
  refine ⟨trivial, ?_⟩
  refine CallsIn.mono (callsIn_wide.2 (members_own _ S5.out (HT.out.low B5.out HT.out.pos))) ?_
  rintro e w6 ⟨vw, ms, rfl, hl6, hms, b6⟩
  obtain ⟨aw, cwp, rfl, hw6⟩ := id hl6
  have HL6 := hid hl6
  have HMS := hid hms
  have hub0 : ∀ b off, aw = some ⟨b, off, none⟩ → ms ≠ [] → b < w6.heap.size := fun b off e hne => by
    rcases hw6 with h | ⟨b', off', e', _, h, _⟩
    · exact absurd h hne
    · rw [e] at e'; injection e' with e'; injection e' with e1 e2; rw [e1]; exact h
  have l7 := lowAlloc w6 (.cells #[.slice aw ms.length cwp] 28)
  have l67 := belowT b6 l7
  have S7 := hid (S5.out.low l67)
  have X7 := hid (X5.out.low l67)
  have R7 := hid (boxed_low R5.out l67)
  have B7 := hid (belowT B5.out l67)
  have BS7 := hid (boxed_low BS5.out l67)
  have H7 := hid (HL6.out.low l7)
  have BW7 := hid (Boxed.new w6 28 (.slice aw ms.length cwp))
  obtain ⟨wbx, hwb⟩ : ∃ wbx, wbx = w6.heap.size := ⟨_, rfl⟩
  have HUB : Hid (∀ b off, aw = some ⟨b, off, none⟩ → ms ≠ [] → b < wbx) := hid (by rw [hwb]; exact hub0)
  clear hub0
  have W7 := hid (show w5.heap.size ≤ wbx by rw [hwb]; exact b6.size)
  have Z7 := hid (show (w6.alloc (.cells #[.slice aw ms.length cwp] 28)).heap.size = wbx + 1 by rw [hwb]; simp)
  rw [← hwb] at BW7
  have hsc := BS7.out.cell
  have hq := run_eql_walk
  clear S5 X5 R5 B5 BS5 HL6 hl6 hms b6 l7 l67 hw6
  gi_wp2_with fail
  rw [← hwb]
  clear hwb
  generalize w6.alloc (.cells #[.slice aw ms.length cwp] 28) = w7 at *
  refine ⟨trivial, ?_⟩
  refine CallsIn.mono (callsIn_wide.2 (all_set p q n _ w7 S7.out)) ?_
  rintro e w8 ⟨X, v8, g, cap, ws, he, hX, hg, hgX, hbx, hws, hwl, hwd, hmw, b8⟩
  unfold allB at he
  subst he
  have em : msL ws.length ws = ms := hmw.one HMS.out
  obtain ⟨ev, hgl, hcw⟩ := hws
  subst ev
  have hXl := lt_of_block hbx
  have xc8 : w8.cell? ⟨X, 0, none⟩ = some (.slice (some ⟨g, 0, none⟩) ws.length cap) := by rw [cell_of_row w8 X 0 _ _ _ hbx]; rfl
  have l9 := lowAlloc w8 (.cells #[.int .i64 0] 3)
  have l89 := belowT b8 l9
  have S9 := hid (S7.out.low l89)
  have X9 := hid (X7.out.low l89)
  have R9 := hid (boxed_low R7.out l89)
  have B9 := hid (belowT B7.out l89)
  have BS9 := hid (boxed_low BS7.out l89)
  have BW9 := hid (boxed_low BW7.out l89)
  have H9 := hid (H7.out.low l89)
  have BK9 := hid (Boxed.new w8 3 (.int .i64 0))
  have WB9 : Hid (Wb (w8.alloc (.cells #[.int .i64 0] 3)) X g (.slice (some ⟨g, 0, none⟩) ws.length cap) ws) := hid ⟨(l9.cell (p := ⟨X, 0, none⟩) hXl).trans xc8, fun j hj => (l9.cell (p := ⟨g, j, none⟩) hgl).trans (hcw j hj), HT.out.low B9.out HT.out.pos⟩
  obtain ⟨kb, hkb⟩ : ∃ kb, kb = w8.heap.size := ⟨_, rfl⟩
  have O9 : Hid (w7.heap.size ≤ X ∧ w7.heap.size ≤ g ∧ g ≠ X ∧ X < kb ∧ g < kb) := hid ⟨hX, hg, hgX, by rw [hkb]; exact hXl, by rw [hkb]; exact hgl⟩
  have Z9 := hid (show (w8.alloc (.cells #[.int .i64 0] 3)).heap.size = kb + 1 by rw [hkb]; simp)
  rw [← hkb] at BK9
  have EM := hid em
  clear S7 X7 R7 B7 BS7 BW7 H7 hbx hcw hmw b8 xc8 l9 l89 hX hg hgX hXl hgl em hsc
  gi_wp2_with fail
  rw [← hkb]
  clear hkb hq
  generalize w8.alloc (.cells #[.int .i64 0] 3) = w9 at *
  obtain ⟨aB, cB, eB, rowB⟩ := HBB.out.row
  obtain ⟨aC, cC, eC, rowC⟩ := HCC.out.row
  subst eB eC
  have HRWB := hid rowB
  clear rowB rowC
  obtain ⟨x, hx⟩ : ∃ x : Sc, x = ⟨w, n, vA, .slice aB zB.length cB, .slice aC zC.length cC, p, q, sb, wbx, kb, X, g, w5.heap.size, aw, cwp, ms, ws, cap⟩ := ⟨_, rfl⟩
  have SO : Hid (So x) := by
    have h1 := P4.out
    have h2 := P4'.out
    have h3 := Q5.out
    have h4 := Q5'.out
    have h5 := Z5.out
    have h6 := W7.out
    have h7 := Z7.out
    obtain ⟨h8, h9, h10, h11, h12⟩ := O9.out
    rw [hx]
    exact ⟨h1, h2, h3, h4, by show sb < w5.heap.size; omega, h6, by show wbx < X; omega, by show wbx < g; omega, h10, h11, h12⟩
  have SK9 : Hid (Sk x w9 0) := by
    rw [hx]
    refine ⟨X9.out, R9.out, BS9.out, BW9.out, BK9.out, ⟨_, S9.out⟩, ?_, WB9.out, B9.out⟩
    obtain ⟨a', c', e', h'⟩ := H9.out
    injection e' with e1 e2 e3
    subst e1
    rcases h' with h' | ⟨b, off, g1, g2, g3, g4⟩
    · exact Or.inl h'
    · by_cases hne : ms = []
      · exact Or.inl hne
      · exact Or.inr ⟨b, off, g1, g2, HUB.out b off g1 hne, g4⟩
  have e0 : x.w = w := by rw [hx]
  have e1 : x.n = n := by rw [hx]
  have e2 : x.vA = vA := by rw [hx]
  have e3 : x.vB = .slice aB zB.length cB := by rw [hx]
  have e4 : x.vC = .slice aC zC.length cC := by rw [hx]
  have e5 : x.p = p := by rw [hx]
  have e6 : x.sb = sb := by rw [hx]
  have e7 : x.wbx = wbx := by rw [hx]
  have e8 : x.kb = kb := by rw [hx]
  have e9 : x.X = X := by rw [hx]
  have e10 : x.g = g := by rw [hx]
  have e11 : x.aw = aw := by rw [hx]
  have e12 : x.cw = cwp := by rw [hx]
  have e13 : x.ms = ms := by rw [hx]
  have e14 : x.ws = ws := by rw [hx]
  clear hx S9 X9 R9 B9 BS9 BW9 H9 BK9 WB9 O9 P4 P4' Q5 Q5' Z5 W7 Z7 HUB
  subst e0 e1 e2 e5 e6 e7 e8 e9 e10 e11 e12 e13 e14
  have E3 := hid e3
  have E4 := hid e4
  have HWD := hid hwd
  clear e3 e4 hwd
  have hM : x.ms.length ≤ 65536 := Nat.le_trans HMS.out.le hn
  have hXw : x.X < w9.heap.size := by have := SO.out.Xk; have := Z9.out; omega
  have hgw : x.g < w9.heap.size := by have := SO.out.gk; have := Z9.out; omega
  refine walkO (by decide) x.X x.g x.cap 0 x.ws hwl HWD.out rfl rfl SK9.out.wb hXw hgw
    (fun pre W => Sk x W pre.length) (fun pre W => Sk x W pre.length ∧ pre.length = zC.length)
    ?_ ?_ ?_ SK9.out (fun y a' _ => a' = { tmps := #[.agg #[.int .i64 (x.n : Int), x.vA, .slice aB zB.length cB, .slice aC zC.length cC], .pointer (some ⟨x.w.heap.size, 0, none⟩), .pointer (some ⟨x.w.heap.size + 1, 0, none⟩), .pointer (some ⟨x.sb, 0, none⟩), .pointer (some ⟨x.wbx, 0, none⟩), allB x.X, .pointer (some ⟨x.kb, 0, none⟩), .int .i64 y, .bool true, .bool false, .pointer (some ⟨x.w.heap.size, 0, none⟩), .int .i64 (x.n : Int), .bool true, .bool false, .pointer (some ⟨x.w.heap.size, 0, none⟩), .int .i64 (x.n : Int), .pointer (some ⟨x.w.heap.size, 1, none⟩), x.vA, .pointer (some ⟨x.p, 0, none⟩), .pointer (some ⟨x.p, 0, none⟩), .bool false, .pointer (some ⟨x.p, 0, none⟩), .slice x.aw x.ms.length x.cw, .pointer (some ⟨x.p, 0, none⟩), allB x.X, allB x.X, .bool false, allB x.X, .int .i64 y, undef, undef, undef, undef, undef, undef, undef, undef, undef, undef, undef, undef, undef, undef, undef, undef, undef, undef, undef, undef, undef, undef, undef, undef, undef, undef, undef, undef, undef, undef, undef, undef, undef, undef, undef, undef, undef, undef, undef, undef, undef, undef, undef, undef, undef, undef, undef, undef, undef, undef, undef, undef, undef, undef, undef, undef, undef, undef, undef, undef, undef, undef, undef, undef, undef, undef, undef, undef, undef, undef], defers := [] }) (fun _ _ _ _ _ _ h _ => h) ?_ ?_ ?_ ?_
  · rintro pre W W' h k
    exact h.lowr SO.out k
  · rintro pre W l r r' h hl hr
    exact h.put SO.out hr (by have := Z9.out; omega)
  · rintro pre W l r r' ⟨h, h2⟩ hl hr
    exact ⟨h.put SO.out hr (by have := Z9.out; omega), h2⟩
  · rintro l y W K hW hK
    have HK := hid hK
    clear hK
    gi_wp2
    exact HK.out _ _ rfl (Below.refl _ _)
  · rintro l pre y a' W rfl hll hr0 hI hpre
    clear hr0
    rw [EM.out] at hpre
    obtain ⟨hp1, hp2⟩ := nth_pre hpre
    have hwc : ∃ b0 off, x.aw = some ⟨b0, off, none⟩ ∧ ∀ j, j < x.ms.length → W.cell? ⟨b0, off + j, none⟩ = some (.int .i64 (x.ms.getD j 0)) := by
      rcases hI.hl with e | ⟨b0, off, e, _, _, hc⟩
      · rw [e] at hp1; cases hp1
      · exact ⟨b0, off, e, hc⟩
    obtain ⟨b0, off, eaw, hcs⟩ := hwc
    have hk := hI.bk.cell
    have hw1 := hI.bw.cell
    rw [eaw] at hw1
    have hel := hcs _ hp1
    rw [hp2] at hel
    have hx2 := hI.xa.c2
    rw [E3.out] at hx2
    obtain ⟨np, hnp⟩ : ∃ np, np = pre.length := ⟨_, rfl⟩
    rw [← hnp] at hk hel hp1 hI
    have HNP := hid hnp
    have SKW := hid hI
    have KBW := hid (Kb.refl w9.heap.size W)
    have MDW := hid (Md.refl [x.X, x.g, 0] W)
    have HCS := hid hcs
    have EAW := hid eaw
    have hp1' : (np : Int) < (x.ms.length : Int) := by omega
    have hp1n : ¬ (x.ms.length ≤ np) := by omega
    have hp1d : decide (x.ms.length ≤ np) = false := by simp; omega
    have hM1 : ∃ M1 : Nat, (x.ms.length : Int) - 1 = (M1 : Int) ∧ M1 < x.ms.length := ⟨x.ms.length - 1, by omega, by omega⟩
    obtain ⟨M1, hM1, hM1l⟩ := hM1
    have hM1' : (M1 : Int) < (x.ms.length : Int) := by omega
    have hMi : (M1 : Int) ≤ 65536 := by omega
    have hwM : IntKind.i64.wrap (M1 : Int) = (M1 : Int) := by rw [IntKind.wrap_i64]; omega
    have hMl : (M1 : Int) < (M1 : Int) + 1 := by omega
    have HLEN := hid (show x.ms.length = M1 + 1 by omega)
    have HM1L := hid hM1l
    clear hM1 hM1' hM1l
    have hnpb : (np : Int) ≤ 65536 := by omega
    clear hI hpre hp2 hnp hcs eaw
    by_cases hnB : np < zB.length
    · have hnB' : (np : Int) < (zB.length : Int) := by omega
      obtain ⟨bB, offB, eaB, hcB⟩ := HRWB.out (by omega)
      subst eaB
      have hzc := (SKW.out.low.cell (p := ⟨bB, offB + np, none⟩) (block_lt_of_cell (hcB np hnB))).trans (hcB np hnB)
      generalize zB.getD np 0 = z at hzc
      have hsc := SKW.out.bs.cell
      obtain ⟨T0, hT0⟩ := SKW.out.st
      have HT0 := hid hT0
      clear hcB hT0
      gi_wp2_with fail
      refine wpIn_mono (reg18 l x W bB offB zB.length cB np z T0 hmx hsc hx2 hk hzc hnB HT0.out) ?_
      rintro e a' V1 ⟨rfl, ⟨u46, u47, u48, u49, u50, u51, u52, rfl⟩, TV1, stV1, chV1⟩
      have SKV1 := hid (SKW.out.chgq SO.out chV1 stV1)
      have KBV1 := hid (KBW.out.trans (SKW.out.kbq (base := w9.heap.size) chV1))
      have MDV1 := hid (MDW.out.trans (SKW.out.mdq SO.out chV1))
      clear stV1 chV1
      have hw2 := SKV1.out.bw.cell
      rw [EAW.out, HLEN.out] at hw2
      have hsc2 := SKV1.out.bs.cell
      have hml : V1.cell? ⟨b0, off + M1, none⟩ = some (.int .i64 (x.ms.getD M1 0)) := by
        rcases SKV1.out.hl with e | ⟨b9, off9, e, _, _, hc⟩
        · have := HM1L.out; rw [e] at this; cases this
        · rw [EAW.out] at e
          injection e with e; injection e with e1 e2
          rw [e1, e2]
          exact hc M1 HM1L.out
      generalize x.ms.getD M1 0 = ml at hml
      obtain ⟨T1, hT1⟩ := SKV1.out.st
      have HT1 := hid hT1
      clear hT1 hk hw1 hel hx2 hzc hsc HT0
      gi_wp2_with fail
      refine wpIn_mono (reg19 l x V1 b0 off M1 x.cw ml T1 hmx hsc2 hw2 hml hMi HT1.out) ?_
      rintro e a' V2 ⟨rfl, ⟨u53, u54, u55, u56, u57, u58, u59, u60, rfl⟩, TV2, stV2, chV2⟩
      have SKV2 := hid (SKV1.out.chgq SO.out chV2 stV2)
      have KBV2 := hid (KBV1.out.trans (SKV1.out.kbq (base := w9.heap.size) chV2))
      have MDV2 := hid (MDV1.out.trans (SKV1.out.mdq SO.out chV2))
      clear stV2 chV2
      clear hw2 hsc2 hml HT1
      have hkc := SKV2.out.bk.cell
      have hkf := SKV2.out.bk.frozen
      have SKn := hid (SKV2.out.setk SO.out (v := (np : Int) + 1) (by omega))
      have hkc2 := SKn.out.bk.cell
      have hc3 := SKV2.out.xa.c3
      rw [E4.out] at hc3
      have e1 : ((np + 1 : Nat) : Int) = (np : Int) + 1 := by omega
      rw [e1] at hkc2
      have KBn := hid (KBV2.out.trans (SKV2.out.kbk (base := w9.heap.size) (v := .int .i64 ((np : Int) + 1))))
      have MDn := hid (MDV2.out.trans (SKV2.out.mdk SO.out (v := .int .i64 ((np : Int) + 1))))
      by_cases hbr : np + 1 = zC.length
      · have HBR := hid hbr
        have hbb : ((np : Int) + 1 == (zC.length : Int)) = true := by simpa using (show (np : Int) + 1 = (zC.length : Int) by omega)
        have hbd : decide (np + 1 = zC.length) = true := by simpa using hbr
        have hbe : decide ((np : Int) + 1 = (zC.length : Int)) = true := by simpa using (show (np : Int) + 1 = (zC.length : Int) by omega)
        clear hbr
        gi_wp2_with fail
        exact ⟨KBn.out, by rw [← HNP.out]; exact SKn.out, by rw [← HNP.out]; exact HBR.out⟩
      · have hbi : ¬ ((np : Int) + 1 = (zC.length : Int)) := by omega
        have hbb : ((np : Int) + 1 == (zC.length : Int)) = false := by simpa using hbi
        clear hbr
        gi_wp2_with fail
        exact ⟨KBn.out, MDn.out, by rw [← HNP.out]; exact SKn.out⟩
    · have hnB' : ¬ ((np : Int) < (zB.length : Int)) := by omega
      have hkc := SKW.out.bk.cell
      have hkf := SKW.out.bk.frozen
      have SKn := hid (SKW.out.setk SO.out (v := (np : Int) + 1) (by omega))
      have hkc2 := SKn.out.bk.cell
      have hc3 := SKW.out.xa.c3
      rw [E4.out] at hc3
      have e1 : ((np + 1 : Nat) : Int) = (np : Int) + 1 := by omega
      rw [e1] at hkc2
      have KBn := hid (KBW.out.trans (SKW.out.kbk (base := w9.heap.size) (v := .int .i64 ((np : Int) + 1))))
      have MDn := hid (MDW.out.trans (SKW.out.mdk SO.out (v := .int .i64 ((np : Int) + 1))))
      by_cases hbr : np + 1 = zC.length
      · have HBR := hid hbr
        have hbb : ((np : Int) + 1 == (zC.length : Int)) = true := by simpa using (show (np : Int) + 1 = (zC.length : Int) by omega)
        have hbd : decide (np + 1 = zC.length) = true := by simpa using hbr
        have hbe : decide ((np : Int) + 1 = (zC.length : Int)) = true := by simpa using (show (np : Int) + 1 = (zC.length : Int) by omega)
        clear hbr
        gi_wp2_with fail
        exact ⟨KBn.out, by rw [← HNP.out]; exact SKn.out, by rw [← HNP.out]; exact HBR.out⟩
      · have hbi : ¬ ((np : Int) + 1 = (zC.length : Int)) := by omega
        have hbb : ((np : Int) + 1 == (zC.length : Int)) = false := by simpa using hbi
        clear hbr
        gi_wp2_with fail
        exact ⟨KBn.out, MDn.out, by rw [← HNP.out]; exact SKn.out⟩
  · rintro D W hD hI hd
    rw [EM.out] at hI
    obtain ⟨kk, hkk⟩ : ∃ kk, kk = x.ms.length := ⟨_, rfl⟩
    rw [← hkk] at hI
    have hb1 : ((kk : Int) != (x.ms.length : Int)) = false := by simp [hkk]
    have hb1' : decide (kk = x.ms.length) = true := by simp [hkk]
    have hb1e : ((kk : Int) == (x.ms.length : Int)) = true := by simp [hkk]
    clear hkk
    have hkc := hI.bk.cell
    have hwc := hI.bw.cell
    have hsc := hI.bs.cell
    have hc3 := hI.xa.c3
    rw [E4.out] at hc3
    have SK := hid hI
    have HD := hid hd
    have hz9 := Z9.out
    have oo := SO.out
    have HDN := hid (show x.kb < D by omega)
    clear hI hd hz9 oo
    gi_wp2_with fail
    obtain ⟨T0, hT0⟩ := SK.out.st
    have HT0 := hid hT0
    clear hT0
    refine wpIn_mono (Q := fun e a' W' => e = .normal ∧ (∃ u28 u29 u30 u31 u32 u33 u34 u35 u36 u37 u38 u39 u40 u41 u42 u43 u44 u45 u46 u47 u48 u49 u50 u51 u52 u53 u54 u55 u56 u57 u58 u59 u60 u61 u62 u63 u64 u65 u66 u67 u68 u69 u70 u71 u72 u73 u74 u75 u76 u77 u78 u79 u80 u81 u82, a' = { tmps := #[.agg #[.int .i64 (x.n : Int), x.vA, .slice aB zB.length cB, .slice aC zC.length cC], .pointer (some ⟨x.w.heap.size, 0, none⟩), .pointer (some ⟨x.w.heap.size + 1, 0, none⟩), .pointer (some ⟨x.sb, 0, none⟩), .pointer (some ⟨x.wbx, 0, none⟩), allB x.X, .pointer (some ⟨x.kb, 0, none⟩), undef, .bool true, .bool false, .pointer (some ⟨x.w.heap.size, 0, none⟩), .int .i64 (x.n : Int), .bool true, .bool false, .pointer (some ⟨x.w.heap.size, 0, none⟩), .int .i64 (x.n : Int), .pointer (some ⟨x.w.heap.size, 1, none⟩), x.vA, .pointer (some ⟨x.p, 0, none⟩), .pointer (some ⟨x.p, 0, none⟩), .bool false, .pointer (some ⟨x.p, 0, none⟩), .slice x.aw x.ms.length x.cw, .pointer (some ⟨x.p, 0, none⟩), allB x.X, allB x.X, .bool false, allB x.X, u28, u29, u30, u31, u32, u33, u34, u35, u36, u37, u38, u39, u40, u41, u42, u43, u44, u45, u46, u47, u48, u49, u50, u51, u52, u53, u54, u55, u56, u57, u58, u59, u60, u61, u62, u63, u64, u65, u66, u67, u68, u69, u70, u71, u72, u73, u74, u75, u76, u77, u78, u79, u80, u81, u82, undef, undef, undef, undef, undef, undef, undef, undef, undef, undef, undef, undef, undef, undef, undef, undef], defers := [{ target := .collected D, args := #[] }] }) ∧ Sj x W' ∧ SetAt W' x.p x.q x.n (fun _ => false) ∧ W'.heap[D]? = some (.deferred (some []))) ?_ ?_
    · refine wpIn_wide.2 ?_
      go_region_held3 (fun V => V.cell? ⟨x.sb, 0, none⟩ = some (.pointer (some ⟨x.p, 0, none⟩)))
        (first | exact hsc | exact jB2 | exact jB1)
        (first
          | (go_at_call 42; refine (clone_new _ (HT0.out.low (lowDrew W))).mono ?_; rintro e V1 ⟨pc, qc, rfl, fc⟩; have J1 := hid (SK.out.sj.lowr SO.out (belowT (lowDrew W) fc.low)); have S1 := hid (HT0.out.low (belowT (lowDrew W) fc.low)); have FC := hid fc; have jB1 := J1.out.bs.cell; clear fc)
          | (go_at_call 41; refine (andnotwith_any _ S1.out FC.out.at' (Or.inr (by have := FC.out.hq; have := HT0.out.qlt; have e : W.drew.heap.size = W.heap.size := rfl; omega))).mono ?_; rintro e V2 ⟨rfl, hs, hg⟩; have HS := hid hs; have HG := hid hg; have J2 := hid (SK.out.sj.lowr SO.out (belowT (lowDrew W) FC.out.low)); have jB2 := (hg.cell (p := ⟨x.sb, 0, none⟩) (by have := SO.out.qs; show x.sb ≠ x.q; omega) J1.out.bs.lt).trans jB1; clear hs hg))
      all_goals (
        have SKc := hid (SK.out.lowr SO.out (belowT (lowDrew W) FC.out.low))
        have SKd := hid (SKc.out.chgq SO.out HG.out HS.out)
        refine ⟨rfl, ⟨_, _, _, _, _, _, _, _, _, _, _, _, _, _, _, _, _, _, _, _, _, _, _, _, _, _, _, _, _, _, _, _, _, _, _, _, _, _, _, _, _, _, _, _, _, _, _, _, _, _, _, _, _, _, _, rfl⟩, SKd.out.sj, HS.out.turn (fun i => by simp), ?_⟩
        refine (HG.out.block D (Nat.lt_of_lt_of_le (lt_of_block HD.out) (belowT (lowDrew W) FC.out.low).size) (by have := HDN.out; have := SO.out.qs; have := SO.out.sl; have := SO.out.lw; have := SO.out.wX; have := SO.out.Xk; omega)).trans ?_
        exact ((belowT (lowDrew W) FC.out.low).block D (lt_of_block HD.out)).trans HD.out)
    rintro e a' W1 ⟨rfl, ⟨u28, u29, u30, u31, u32, u33, u34, u35, u36, u37, u38, u39, u40, u41, u42, u43, u44, u45, u46, u47, u48, u49, u50, u51, u52, u53, u54, u55, u56, u57, u58, u59, u60, u61, u62, u63, u64, u65, u66, u67, u68, u69, u70, u71, u72, u73, u74, u75, u76, u77, u78, u79, u80, u81, u82, rfl⟩, hj, hset, hd1⟩
    have SJ1 := hid hj
    have ST1 := hid hset
    have HD1 := hid hd1
    have hs1 := SJ1.out.bs.cell
    clear hj hset hd1 hkc hwc hsc hc3 SK HD HT0
    gi_wp2_with fail
    refine ⟨trivial, ?_⟩
    refine CallsIn.mono (callsIn_wide.2 (grow_any 65536 W1 ST1.out (by decide) hn)) ?_
    rintro e W2 ⟨rfl, hs, hg⟩
    have SJ2 := hid (SJ1.out.chg SO.out hg (Or.inl rfl))
    have ST2 := hid hs
    have HD2 : Hid (W2.heap[D]? = some (.deferred (some []))) := hid ((hg.block D (lt_of_block HD1.out) (by have := HDN.out; have := SO.out.ps; have := SO.out.sl; have := SO.out.lw; have := SO.out.wX; have := SO.out.Xk; omega)).trans HD1.out)
    have hs2 := SJ2.out.bs.cell
    obtain ⟨q2, hq2⟩ : ∃ q2, q2 = W1.heap.size := ⟨_, rfl⟩
    rw [← hq2] at ST2
    have Q2 := hid (show x.kb < q2 by rw [hq2]; exact SJ1.out.sz)
    have Q2D := hid (show q2 ≠ D by have := lt_of_block HD1.out; omega)
    clear hs hg hs1 SJ1 ST1 HD1 hq2
    gi_wp2_with fail
    refine ⟨trivial, ?_⟩
    refine CallsIn.mono (callsIn_wide.2 (add_all 65535 W2 ST2.out)) ?_
    rintro e W3 ⟨rfl, hs, hg⟩
    have SJ3 := hid (SJ2.out.chg SO.out hg (Or.inr Q2.out))
    have ST3 := hid hs
    have HD3 : Hid (W3.heap[D]? = some (.deferred (some []))) := hid ((hg.block D (lt_of_block HD2.out) (Ne.symm Q2D.out)).trans HD2.out)
    have hs3 := SJ3.out.bs.cell
    have hw3 := SJ3.out.bw.cell
    clear hs hg hs2 SJ2 ST2 HD2
    gi_wp2_with fail
    refine ⟨trivial, ?_⟩
    refine CallsIn.mono (callsIn_wide.2 (pairs_any x.X x.g x.cap x.lo x.ws (.slice x.aw x.ms.length x.cw) W3 hwl HWD.out SJ3.out.wb (by have := SJ3.out.sz; have := SO.out.Xk; omega) (by have := SJ3.out.sz; have := SO.out.gk; omega) (by rw [EM.out]; exact SJ3.out.hl) (by rw [EM.out]; exact hM))) ?_
    rintro e W4 ⟨rfl, hb⟩
    have SJ4 := hid (SJ3.out.lowr SO.out hb)
    have ST4 := hid (ST3.out.low hb)
    have HD4 : Hid (W4.heap[D]? = some (.deferred (some []))) := hid ((hb.block D (lt_of_block HD3.out)).trans HD3.out)
    have hs4 := SJ4.out.bs.cell
    clear hb hs3 hw3 SJ3 ST3 HD3
    gi_wp2_with fail
    refine ⟨trivial, ?_⟩
    refine CallsIn.mono (callsIn_wide.2 (count_last W4 ST4.out)) ?_
    rintro e W5 ⟨rfl, hww⟩
    subst hww
    gi_wp2_with fail
    refine ⟨trivial, ?_⟩
    refine CallsIn.mono (callsIn_wide.2 (has_true 65535 W5 ST4.out (by decide) has_last)) ?_
    rintro e W6 ⟨rfl, m6, hww⟩
    have l6 : Below W5.heap.size W5 W6 := by rw [hww]; exact belowDrewN m6
    have SJ6 := hid (SJ4.out.lowr SO.out l6)
    have HD6 : Hid (W6.heap[D]? = some (.deferred (some []))) := hid ((l6.block D (lt_of_block HD4.out)).trans HD4.out)
    have hr6 := SJ6.out.br.cell
    have hf6 := SJ6.out.br.frozen
    clear hww l6 hs4 SJ4 ST4 HD4
    gi_wp2_with fail
    have hDn := HDN.out
    have o1 := SO.out.hq
    have o3 := SO.out.qs
    have o5 := SO.out.sl
    have o6 := SO.out.lw
    have o7 := SO.out.wX
    have o9 := SO.out.Xk
    have hDd : (W6.setCell ⟨x.w.heap.size + 1, 0, none⟩ (.bool true)).heap[D]? = some (.deferred (some [])) := (heap_setCell_other _ _ _ _ (by show D ≠ x.w.heap.size + 1; omega)).trans HD6.out
    refine ⟨by simp, .inl ⟨_, _, rfl, run_takeDeferred hDd, ?_⟩⟩
    have hbx : Boxed ((W6.setCell ⟨x.w.heap.size + 1, 0, none⟩ (.bool true)).putObj D (.deferred none)) (x.w.heap.size + 1) 4 (.bool true) := (World.putObj_heap_other (by omega)).trans (SJ6.out.br.set _)
    have hlow : Below x.w.heap.size x.w ((W6.setCell ⟨x.w.heap.size + 1, 0, none⟩ (.bool true)).putObj D (.deferred none)) := low_put (low_set SJ6.out.low (by omega)) (by omega)
    have xc := hbx.cell
    have HLW := hid hlow
    clear hbx hlow hDd
    generalize (W6.setCell ⟨x.w.heap.size + 1, 0, none⟩ (.bool true)).putObj D (.deferred none) = Z at *
    simp [LeavesInM, LeavesIn, results, Tryd.results7, go_sem, xc]
    rw [← HQ.out]
    exact ⟨rfl, HLW.out⟩
  · rintro D pre W hD hp ⟨hI, hpl⟩ hd
    obtain ⟨kk, hkk⟩ : ∃ kk, kk = pre.length := ⟨_, rfl⟩
    rw [← hkk] at hI hpl
    have hb2 : ((kk : Int) != (zC.length : Int)) = false := by simp [hpl]
    have hb2' : decide (kk = zC.length) = true := by simp [hpl]
    have hb2e : ((kk : Int) == (zC.length : Int)) = true := by simp [hpl]
    clear hkk hpl
    by_cases hq1 : kk = x.ms.length
    · have hb1 : ((kk : Int) != (x.ms.length : Int)) = false := by simp [hq1]
      have hb1' : decide (kk = x.ms.length) = true := by simp [hq1]
      have hb1e : ((kk : Int) == (x.ms.length : Int)) = true := by simp [hq1]
      clear hq1
      have hkc := hI.bk.cell
      have hwc := hI.bw.cell
      have hsc := hI.bs.cell
      have hc3 := hI.xa.c3
      rw [E4.out] at hc3
      have SK := hid hI
      have HD := hid hd
      have hz9 := Z9.out
      have oo := SO.out
      have HDN := hid (show x.kb < D by omega)
      clear hI hd hz9 oo
      gi_wp2_with fail
      obtain ⟨T0, hT0⟩ := SK.out.st
      have HT0 := hid hT0
      clear hT0
      refine wpIn_mono (Q := fun e a' W' => e = .normal ∧ (∃ u28 u29 u30 u31 u32 u33 u34 u35 u36 u37 u38 u39 u40 u41 u42 u43 u44 u45 u46 u47 u48 u49 u50 u51 u52 u53 u54 u55 u56 u57 u58 u59 u60 u61 u62 u63 u64 u65 u66 u67 u68 u69 u70 u71 u72 u73 u74 u75 u76 u77 u78 u79 u80 u81 u82, a' = { tmps := #[.agg #[.int .i64 (x.n : Int), x.vA, .slice aB zB.length cB, .slice aC zC.length cC], .pointer (some ⟨x.w.heap.size, 0, none⟩), .pointer (some ⟨x.w.heap.size + 1, 0, none⟩), .pointer (some ⟨x.sb, 0, none⟩), .pointer (some ⟨x.wbx, 0, none⟩), allB x.X, .pointer (some ⟨x.kb, 0, none⟩), undef, .bool true, .bool false, .pointer (some ⟨x.w.heap.size, 0, none⟩), .int .i64 (x.n : Int), .bool true, .bool false, .pointer (some ⟨x.w.heap.size, 0, none⟩), .int .i64 (x.n : Int), .pointer (some ⟨x.w.heap.size, 1, none⟩), x.vA, .pointer (some ⟨x.p, 0, none⟩), .pointer (some ⟨x.p, 0, none⟩), .bool false, .pointer (some ⟨x.p, 0, none⟩), .slice x.aw x.ms.length x.cw, .pointer (some ⟨x.p, 0, none⟩), allB x.X, allB x.X, .bool false, allB x.X, u28, u29, u30, u31, u32, u33, u34, u35, u36, u37, u38, u39, u40, u41, u42, u43, u44, u45, u46, u47, u48, u49, u50, u51, u52, u53, u54, u55, u56, u57, u58, u59, u60, u61, u62, u63, u64, u65, u66, u67, u68, u69, u70, u71, u72, u73, u74, u75, u76, u77, u78, u79, u80, u81, u82, undef, undef, undef, undef, undef, undef, undef, undef, undef, undef, undef, undef, undef, undef, undef, undef], defers := [{ target := .collected D, args := #[] }] }) ∧ Sj x W' ∧ SetAt W' x.p x.q x.n (fun _ => false) ∧ W'.heap[D]? = some (.deferred (some []))) ?_ ?_
      · refine wpIn_wide.2 ?_
        go_region_held3 (fun V => V.cell? ⟨x.sb, 0, none⟩ = some (.pointer (some ⟨x.p, 0, none⟩)))
          (first | exact hsc | exact jB2 | exact jB1)
          (first
            | (go_at_call 42; refine (clone_new _ (HT0.out.low (lowDrew W))).mono ?_; rintro e V1 ⟨pc, qc, rfl, fc⟩; have J1 := hid (SK.out.sj.lowr SO.out (belowT (lowDrew W) fc.low)); have S1 := hid (HT0.out.low (belowT (lowDrew W) fc.low)); have FC := hid fc; have jB1 := J1.out.bs.cell; clear fc)
            | (go_at_call 41; refine (andnotwith_any _ S1.out FC.out.at' (Or.inr (by have := FC.out.hq; have := HT0.out.qlt; have e : W.drew.heap.size = W.heap.size := rfl; omega))).mono ?_; rintro e V2 ⟨rfl, hs, hg⟩; have HS := hid hs; have HG := hid hg; have J2 := hid (SK.out.sj.lowr SO.out (belowT (lowDrew W) FC.out.low)); have jB2 := (hg.cell (p := ⟨x.sb, 0, none⟩) (by have := SO.out.qs; show x.sb ≠ x.q; omega) J1.out.bs.lt).trans jB1; clear hs hg))
        all_goals (
          have SKc := hid (SK.out.lowr SO.out (belowT (lowDrew W) FC.out.low))
          have SKd := hid (SKc.out.chgq SO.out HG.out HS.out)
          refine ⟨rfl, ⟨_, _, _, _, _, _, _, _, _, _, _, _, _, _, _, _, _, _, _, _, _, _, _, _, _, _, _, _, _, _, _, _, _, _, _, _, _, _, _, _, _, _, _, _, _, _, _, _, _, _, _, _, _, _, _, rfl⟩, SKd.out.sj, HS.out.turn (fun i => by simp), ?_⟩
          refine (HG.out.block D (Nat.lt_of_lt_of_le (lt_of_block HD.out) (belowT (lowDrew W) FC.out.low).size) (by have := HDN.out; have := SO.out.qs; have := SO.out.sl; have := SO.out.lw; have := SO.out.wX; have := SO.out.Xk; omega)).trans ?_
          exact ((belowT (lowDrew W) FC.out.low).block D (lt_of_block HD.out)).trans HD.out)
      rintro e a' W1 ⟨rfl, ⟨u28, u29, u30, u31, u32, u33, u34, u35, u36, u37, u38, u39, u40, u41, u42, u43, u44, u45, u46, u47, u48, u49, u50, u51, u52, u53, u54, u55, u56, u57, u58, u59, u60, u61, u62, u63, u64, u65, u66, u67, u68, u69, u70, u71, u72, u73, u74, u75, u76, u77, u78, u79, u80, u81, u82, rfl⟩, hj, hset, hd1⟩
      have SJ1 := hid hj
      have ST1 := hid hset
      have HD1 := hid hd1
      have hs1 := SJ1.out.bs.cell
      clear hj hset hd1 hkc hwc hsc hc3 SK HD HT0
      gi_wp2_with fail
      refine ⟨trivial, ?_⟩
      refine CallsIn.mono (callsIn_wide.2 (grow_any 65536 W1 ST1.out (by decide) hn)) ?_
      rintro e W2 ⟨rfl, hs, hg⟩
      have SJ2 := hid (SJ1.out.chg SO.out hg (Or.inl rfl))
      have ST2 := hid hs
      have HD2 : Hid (W2.heap[D]? = some (.deferred (some []))) := hid ((hg.block D (lt_of_block HD1.out) (by have := HDN.out; have := SO.out.ps; have := SO.out.sl; have := SO.out.lw; have := SO.out.wX; have := SO.out.Xk; omega)).trans HD1.out)
      have hs2 := SJ2.out.bs.cell
      obtain ⟨q2, hq2⟩ : ∃ q2, q2 = W1.heap.size := ⟨_, rfl⟩
      rw [← hq2] at ST2
      have Q2 := hid (show x.kb < q2 by rw [hq2]; exact SJ1.out.sz)
      have Q2D := hid (show q2 ≠ D by have := lt_of_block HD1.out; omega)
      clear hs hg hs1 SJ1 ST1 HD1 hq2
      gi_wp2_with fail
      refine ⟨trivial, ?_⟩
      refine CallsIn.mono (callsIn_wide.2 (add_all 65535 W2 ST2.out)) ?_
      rintro e W3 ⟨rfl, hs, hg⟩
      have SJ3 := hid (SJ2.out.chg SO.out hg (Or.inr Q2.out))
      have ST3 := hid hs
      have HD3 : Hid (W3.heap[D]? = some (.deferred (some []))) := hid ((hg.block D (lt_of_block HD2.out) (Ne.symm Q2D.out)).trans HD2.out)
      have hs3 := SJ3.out.bs.cell
      have hw3 := SJ3.out.bw.cell
      clear hs hg hs2 SJ2 ST2 HD2
      gi_wp2_with fail
      refine ⟨trivial, ?_⟩
      refine CallsIn.mono (callsIn_wide.2 (pairs_any x.X x.g x.cap x.lo x.ws (.slice x.aw x.ms.length x.cw) W3 hwl HWD.out SJ3.out.wb (by have := SJ3.out.sz; have := SO.out.Xk; omega) (by have := SJ3.out.sz; have := SO.out.gk; omega) (by rw [EM.out]; exact SJ3.out.hl) (by rw [EM.out]; exact hM))) ?_
      rintro e W4 ⟨rfl, hb⟩
      have SJ4 := hid (SJ3.out.lowr SO.out hb)
      have ST4 := hid (ST3.out.low hb)
      have HD4 : Hid (W4.heap[D]? = some (.deferred (some []))) := hid ((hb.block D (lt_of_block HD3.out)).trans HD3.out)
      have hs4 := SJ4.out.bs.cell
      clear hb hs3 hw3 SJ3 ST3 HD3
      gi_wp2_with fail
      refine ⟨trivial, ?_⟩
      refine CallsIn.mono (callsIn_wide.2 (count_last W4 ST4.out)) ?_
      rintro e W5 ⟨rfl, hww⟩
      subst hww
      gi_wp2_with fail
      refine ⟨trivial, ?_⟩
      refine CallsIn.mono (callsIn_wide.2 (has_true 65535 W5 ST4.out (by decide) has_last)) ?_
      rintro e W6 ⟨rfl, m6, hww⟩
      have l6 : Below W5.heap.size W5 W6 := by rw [hww]; exact belowDrewN m6
      have SJ6 := hid (SJ4.out.lowr SO.out l6)
      have HD6 : Hid (W6.heap[D]? = some (.deferred (some []))) := hid ((l6.block D (lt_of_block HD4.out)).trans HD4.out)
      have hr6 := SJ6.out.br.cell
      have hf6 := SJ6.out.br.frozen
      clear hww l6 hs4 SJ4 ST4 HD4
      gi_wp2_with fail
      have hDn := HDN.out
      have o1 := SO.out.hq
      have o3 := SO.out.qs
      have o5 := SO.out.sl
      have o6 := SO.out.lw
      have o7 := SO.out.wX
      have o9 := SO.out.Xk
      have hDd : (W6.setCell ⟨x.w.heap.size + 1, 0, none⟩ (.bool true)).heap[D]? = some (.deferred (some [])) := (heap_setCell_other _ _ _ _ (by show D ≠ x.w.heap.size + 1; omega)).trans HD6.out
      refine ⟨by simp, .inl ⟨_, _, rfl, run_takeDeferred hDd, ?_⟩⟩
      have hbx : Boxed ((W6.setCell ⟨x.w.heap.size + 1, 0, none⟩ (.bool true)).putObj D (.deferred none)) (x.w.heap.size + 1) 4 (.bool true) := (World.putObj_heap_other (by omega)).trans (SJ6.out.br.set _)
      have hlow : Below x.w.heap.size x.w ((W6.setCell ⟨x.w.heap.size + 1, 0, none⟩ (.bool true)).putObj D (.deferred none)) := low_put (low_set SJ6.out.low (by omega)) (by omega)
      have xc := hbx.cell
      have HLW := hid hlow
      clear hbx hlow hDd
      generalize (W6.setCell ⟨x.w.heap.size + 1, 0, none⟩ (.bool true)).putObj D (.deferred none) = Z at *
      simp [LeavesInM, LeavesIn, results, Tryd.results7, go_sem, xc]
      rw [← HQ.out]
      exact ⟨rfl, HLW.out⟩
    · have hb1 : ((kk : Int) != (x.ms.length : Int)) = true := by simp; omega
      have hb1' : decide (kk = x.ms.length) = false := by simp [hq1]
      have hb1e : ((kk : Int) == (x.ms.length : Int)) = false := by simp; omega
      clear hq1
      have hkc := hI.bk.cell
      have hwc := hI.bw.cell
      have hsc := hI.bs.cell
      have hc3 := hI.xa.c3
      rw [E4.out] at hc3
      have SK := hid hI
      have HD := hid hd
      have hz9 := Z9.out
      have oo := SO.out
      have HDN := hid (show x.kb < D by omega)
      clear hI hd hz9 oo
      gi_wp2_with fail
      obtain ⟨T0, hT0⟩ := SK.out.st
      have HT0 := hid hT0
      clear hT0
      refine wpIn_mono (Q := fun e a' W' => e = .normal ∧ (∃ u28 u29 u30 u31 u32 u33 u34 u35 u36 u37 u38 u39 u40 u41 u42 u43 u44 u45 u46 u47 u48 u49 u50 u51 u52 u53 u54 u55 u56 u57 u58 u59 u60 u61 u62 u63 u64 u65 u66 u67 u68 u69 u70 u71 u72 u73 u74 u75 u76 u77 u78 u79 u80 u81 u82, a' = { tmps := #[.agg #[.int .i64 (x.n : Int), x.vA, .slice aB zB.length cB, .slice aC zC.length cC], .pointer (some ⟨x.w.heap.size, 0, none⟩), .pointer (some ⟨x.w.heap.size + 1, 0, none⟩), .pointer (some ⟨x.sb, 0, none⟩), .pointer (some ⟨x.wbx, 0, none⟩), allB x.X, .pointer (some ⟨x.kb, 0, none⟩), undef, .bool true, .bool false, .pointer (some ⟨x.w.heap.size, 0, none⟩), .int .i64 (x.n : Int), .bool true, .bool false, .pointer (some ⟨x.w.heap.size, 0, none⟩), .int .i64 (x.n : Int), .pointer (some ⟨x.w.heap.size, 1, none⟩), x.vA, .pointer (some ⟨x.p, 0, none⟩), .pointer (some ⟨x.p, 0, none⟩), .bool false, .pointer (some ⟨x.p, 0, none⟩), .slice x.aw x.ms.length x.cw, .pointer (some ⟨x.p, 0, none⟩), allB x.X, allB x.X, .bool false, allB x.X, u28, u29, u30, u31, u32, u33, u34, u35, u36, u37, u38, u39, u40, u41, u42, u43, u44, u45, u46, u47, u48, u49, u50, u51, u52, u53, u54, u55, u56, u57, u58, u59, u60, u61, u62, u63, u64, u65, u66, u67, u68, u69, u70, u71, u72, u73, u74, u75, u76, u77, u78, u79, u80, u81, u82, undef, undef, undef, undef, undef, undef, undef, undef, undef, undef, undef, undef, undef, undef, undef, undef], defers := [{ target := .collected D, args := #[] }] }) ∧ Sj x W' ∧ SetAt W' x.p x.q x.n (fun _ => false) ∧ W'.heap[D]? = some (.deferred (some []))) ?_ ?_
      · refine wpIn_wide.2 ?_
        go_region_held3 (fun V => V.cell? ⟨x.sb, 0, none⟩ = some (.pointer (some ⟨x.p, 0, none⟩)))
          (first | exact hsc | exact jB2 | exact jB1)
          (first
            | (go_at_call 42; refine (clone_new _ (HT0.out.low (lowDrew W))).mono ?_; rintro e V1 ⟨pc, qc, rfl, fc⟩; have J1 := hid (SK.out.sj.lowr SO.out (belowT (lowDrew W) fc.low)); have S1 := hid (HT0.out.low (belowT (lowDrew W) fc.low)); have FC := hid fc; have jB1 := J1.out.bs.cell; clear fc)
            | (go_at_call 41; refine (andnotwith_any _ S1.out FC.out.at' (Or.inr (by have := FC.out.hq; have := HT0.out.qlt; have e : W.drew.heap.size = W.heap.size := rfl; omega))).mono ?_; rintro e V2 ⟨rfl, hs, hg⟩; have HS := hid hs; have HG := hid hg; have J2 := hid (SK.out.sj.lowr SO.out (belowT (lowDrew W) FC.out.low)); have jB2 := (hg.cell (p := ⟨x.sb, 0, none⟩) (by have := SO.out.qs; show x.sb ≠ x.q; omega) J1.out.bs.lt).trans jB1; clear hs hg))
        all_goals (
          have SKc := hid (SK.out.lowr SO.out (belowT (lowDrew W) FC.out.low))
          have SKd := hid (SKc.out.chgq SO.out HG.out HS.out)
          refine ⟨rfl, ⟨_, _, _, _, _, _, _, _, _, _, _, _, _, _, _, _, _, _, _, _, _, _, _, _, _, _, _, _, _, _, _, _, _, _, _, _, _, _, _, _, _, _, _, _, _, _, _, _, _, _, _, _, _, _, _, rfl⟩, SKd.out.sj, HS.out.turn (fun i => by simp), ?_⟩
          refine (HG.out.block D (Nat.lt_of_lt_of_le (lt_of_block HD.out) (belowT (lowDrew W) FC.out.low).size) (by have := HDN.out; have := SO.out.qs; have := SO.out.sl; have := SO.out.lw; have := SO.out.wX; have := SO.out.Xk; omega)).trans ?_
          exact ((belowT (lowDrew W) FC.out.low).block D (lt_of_block HD.out)).trans HD.out)
      rintro e a' W1 ⟨rfl, ⟨u28, u29, u30, u31, u32, u33, u34, u35, u36, u37, u38, u39, u40, u41, u42, u43, u44, u45, u46, u47, u48, u49, u50, u51, u52, u53, u54, u55, u56, u57, u58, u59, u60, u61, u62, u63, u64, u65, u66, u67, u68, u69, u70, u71, u72, u73, u74, u75, u76, u77, u78, u79, u80, u81, u82, rfl⟩, hj, hset, hd1⟩
      have SJ1 := hid hj
      have ST1 := hid hset
      have HD1 := hid hd1
      have hs1 := SJ1.out.bs.cell
      clear hj hset hd1 hkc hwc hsc hc3 SK HD HT0
      gi_wp2_with fail
      refine ⟨trivial, ?_⟩
      refine CallsIn.mono (callsIn_wide.2 (grow_any 65536 W1 ST1.out (by decide) hn)) ?_
      rintro e W2 ⟨rfl, hs, hg⟩
      have SJ2 := hid (SJ1.out.chg SO.out hg (Or.inl rfl))
      have ST2 := hid hs
      have HD2 : Hid (W2.heap[D]? = some (.deferred (some []))) := hid ((hg.block D (lt_of_block HD1.out) (by have := HDN.out; have := SO.out.ps; have := SO.out.sl; have := SO.out.lw; have := SO.out.wX; have := SO.out.Xk; omega)).trans HD1.out)
      have hs2 := SJ2.out.bs.cell
      obtain ⟨q2, hq2⟩ : ∃ q2, q2 = W1.heap.size := ⟨_, rfl⟩
      rw [← hq2] at ST2
      have Q2 := hid (show x.kb < q2 by rw [hq2]; exact SJ1.out.sz)
      have Q2D := hid (show q2 ≠ D by have := lt_of_block HD1.out; omega)
      clear hs hg hs1 SJ1 ST1 HD1 hq2
      gi_wp2_with fail
      refine ⟨trivial, ?_⟩
      refine CallsIn.mono (callsIn_wide.2 (add_all 65535 W2 ST2.out)) ?_
      rintro e W3 ⟨rfl, hs, hg⟩
      have SJ3 := hid (SJ2.out.chg SO.out hg (Or.inr Q2.out))
      have ST3 := hid hs
      have HD3 : Hid (W3.heap[D]? = some (.deferred (some []))) := hid ((hg.block D (lt_of_block HD2.out) (Ne.symm Q2D.out)).trans HD2.out)
      have hs3 := SJ3.out.bs.cell
      have hw3 := SJ3.out.bw.cell
      clear hs hg hs2 SJ2 ST2 HD2
      gi_wp2_with fail
      refine ⟨trivial, ?_⟩
      refine CallsIn.mono (callsIn_wide.2 (pairs_any x.X x.g x.cap x.lo x.ws (.slice x.aw x.ms.length x.cw) W3 hwl HWD.out SJ3.out.wb (by have := SJ3.out.sz; have := SO.out.Xk; omega) (by have := SJ3.out.sz; have := SO.out.gk; omega) (by rw [EM.out]; exact SJ3.out.hl) (by rw [EM.out]; exact hM))) ?_
      rintro e W4 ⟨rfl, hb⟩
      have SJ4 := hid (SJ3.out.lowr SO.out hb)
      have ST4 := hid (ST3.out.low hb)
      have HD4 : Hid (W4.heap[D]? = some (.deferred (some []))) := hid ((hb.block D (lt_of_block HD3.out)).trans HD3.out)
      have hs4 := SJ4.out.bs.cell
      clear hb hs3 hw3 SJ3 ST3 HD3
      gi_wp2_with fail
      refine ⟨trivial, ?_⟩
      refine CallsIn.mono (callsIn_wide.2 (count_last W4 ST4.out)) ?_
      rintro e W5 ⟨rfl, hww⟩
      subst hww
      gi_wp2_with fail
      refine ⟨trivial, ?_⟩
      refine CallsIn.mono (callsIn_wide.2 (has_true 65535 W5 ST4.out (by decide) has_last)) ?_
      rintro e W6 ⟨rfl, m6, hww⟩
      have l6 : Below W5.heap.size W5 W6 := by rw [hww]; exact belowDrewN m6
      have SJ6 := hid (SJ4.out.lowr SO.out l6)
      have HD6 : Hid (W6.heap[D]? = some (.deferred (some []))) := hid ((l6.block D (lt_of_block HD4.out)).trans HD4.out)
      have hr6 := SJ6.out.br.cell
      have hf6 := SJ6.out.br.frozen
      clear hww l6 hs4 SJ4 ST4 HD4
      gi_wp2_with fail
      have hDn := HDN.out
      have o1 := SO.out.hq
      have o3 := SO.out.qs
      have o5 := SO.out.sl
      have o6 := SO.out.lw
      have o7 := SO.out.wX
      have o9 := SO.out.Xk
      have hDd : (W6.setCell ⟨x.w.heap.size + 1, 0, none⟩ (.bool true)).heap[D]? = some (.deferred (some [])) := (heap_setCell_other _ _ _ _ (by show D ≠ x.w.heap.size + 1; omega)).trans HD6.out
      refine ⟨by simp, .inl ⟨_, _, rfl, run_takeDeferred hDd, ?_⟩⟩
      have hbx : Boxed ((W6.setCell ⟨x.w.heap.size + 1, 0, none⟩ (.bool true)).putObj D (.deferred none)) (x.w.heap.size + 1) 4 (.bool true) := (World.putObj_heap_other (by omega)).trans (SJ6.out.br.set _)
      have hlow : Below x.w.heap.size x.w ((W6.setCell ⟨x.w.heap.size + 1, 0, none⟩ (.bool true)).putObj D (.deferred none)) := low_put (low_set SJ6.out.low (by omega)) (by omega)
      have xc := hbx.cell
      have HLW := hid hlow
      clear hbx hlow hDd
      generalize (W6.setCell ⟨x.w.heap.size + 1, 0, none⟩ (.bool true)).putObj D (.deferred none) = Z at *
      simp [LeavesInM, LeavesIn, results, Tryd.results7, go_sem, xc]
      rw [← HQ.out]
      exact ⟨rfl, HLW.out⟩
end Go.Proofs.YtkagdmhijjfnnaaDoor
