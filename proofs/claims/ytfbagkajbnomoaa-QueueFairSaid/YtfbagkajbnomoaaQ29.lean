import Derived.Test.YtfbagkajbnomoaaQ28
namespace Go.Proofs.Ytfbagkajbnomoaa.L
open Go.RowKit Rg Qu
set_option linter.unusedVariables false
set_option linter.unusedSimpArgs false
/-- Between the calls: who is in. -/
def FrS (w : World) (qb : Nat) (s4 : Value) (wr : World) : Prop := ∃ (L : List Wt) (nx : Int) (v : Value) (I : List ByteArray), Okq L nx ∧ Qm wr qb qb v L nx ∧ I.Perm (nms L) ∧ wr.ownsRow w.heap.size 9 1 s4 I.length (rowX strV I) ∧ Below w.heap.size w wr
/-- Between the turns: who is left. -/
def FrT (w : World) (B4 qb : Nat) (a4 : Option Addr) (n c4 : Nat) (L : List Wt) (nx : Int) (i : Nat) (s4 : Value) (wr : World) : Prop := ∃ (v : Value) (J : List ByteArray), Qm wr qb qb v (frs L i) nx ∧ J.Perm (nms (L.drop i)) ∧ wr.ownsRow w.heap.size 9 1 s4 J.length (rowX strV J) ∧ Below w.heap.size w wr ∧ wr.ownsRow B4 40 6 (.slice a4 n c4) n (rowX wtV L)
theorem rd_s {W : World} {base n c : Nat} {e : TypeId} {a : Option Addr} {l : List ByteArray} (h : W.ownsRow base e 1 (.slice a n c) n (rowX strV l)) : RdG strV 1 W a l := by
  obtain ⟨_, a', c', e, r⟩ := own_s h
  injection e with e _ _
  subst e
  exact r
theorem wks_asl {l : List Wt} {x : Wt} (h : x ∈ wks l) : x.asl = false := by
  unfold wks at h
  obtain ⟨y, _, rfl⟩ := List.mem_map.1 h
  rfl
theorem rd_w {W : World} {base n c : Nat} {e : TypeId} {a : Option Addr} {l : List Wt} (h : W.ownsRow base e 6 (.slice a n c) n (rowX wtV l)) : RdG wtV 6 W a l := by
  obtain ⟨_, a', c', e, r⟩ := own_w h
  injection e with e _ _
  subst e
  exact r
set_option maxHeartbeats 8000000 in
set_option maxRecDepth 100000 in
theorem queuefair_any (a : Option Addr) (sc : List Opq) (cap : Nat) (w : World) (hs : ScR w a sc) (hl : sc.length ≤ 140737488355328) :
    Calls Try.prog 5 #[.slice a sc.length cap] w fun e w' => e = .returned (.bool true) ∧ Below w.heap.size w w' := by
  obtain ⟨i4, hi, hz0, hz1, hz2⟩ := info_parts infoS
  have HS := hid hs
  have HAW := hid (awake_any w)
  obtain ⟨n, hn⟩ : ∃ n, n = sc.length := ⟨_, rfl⟩
  have HN := hid hn
  rw [← hn] at hl ⊢
  have hmax : n ≤ 9223372036854775807 := by omega
  clear hn hs
  go_enter Try.func5, Try.ntmps5
  go_wp2_with fail
  refine HAW.out.mono ?_
  rintro e w1 ⟨rfl, b1⟩
  have HB1 := hid b1
  have HNW := hid (new_any w1)
  clear b1 HAW
  go_wp2_with fail
  refine HNW.out.mono ?_
  rintro e w2 ⟨rfl, m2, b2⟩
  obtain ⟨qb, hqb⟩ : ∃ b, b = w1.heap.size := ⟨_, rfl⟩
  rw [← hqb] at m2 ⊢
  have HBB := hid (bch HB1.out b2)
  have HQB := hid (show w.heap.size ≤ qb from by rw [hqb]; exact HB1.out.size)
  have HM2 := hid m2
  clear m2 b2 HB1 HNW hqb
  go_wp2_with fail
  go_loopw [4, 5] (fun s4 s5 wr => ∃ k : Nat, k ≤ n ∧ s5 = .int .i64 (k : Int) ∧ Hid (FrS w qb s4 wr)) (fun _ i _ => n - (intOf i).toNat)
  case atStart => exact ⟨0, Nat.zero_le _, rfl, hid ⟨[], 0, _, [], okq_nil, HM2.out, List.Perm.refl _, ⟨by simp [rowX], Or.inl ⟨rfl, rfl⟩⟩, HBB.out⟩⟩
  case round =>
    obtain ⟨k, hk, rfl, HH⟩ := hrel
    clear HM2 HBB
    obtain ⟨L, nx, v, I, ok, mm, pe, ro, bl⟩ := HH.out
    obtain ⟨eI, aI, cI, hvI, rI⟩ := own_s ro
    subst hvI
    clear eI rI
    obtain ⟨m, hm⟩ : ∃ m, m = I.length := ⟨_, rfl⟩
    rw [← hm] at ro ⊢
    have HOK := hid ok
    have HM := hid mm
    have HPE := hid pe
    have HRO := hid ro
    have HBL := hid bl
    have HML := hid hm
    have hm4 : m ≤ 2048 := by rw [hm, pe.length_eq, nms_len]; exact ok.few
    have HSZ := hid (show qb ≤ wr.heap.size from Nat.le_of_lt (lt_blk mm.box))
    clear ok mm pe ro bl hm HH
    by_cases hlt : k < n
    · have g1 : (k : Int) < (n : Int) := by omega
      have g2 : (0 : Int) ≤ (k : Int) := by omega
      have k1 : k < sc.length := by rw [← HN.out]; exact hlt
      obtain ⟨b, off, hae, hbb, c0, c1, c2, c3, ra, rc, c4, _⟩ := scr_at (HS.out.low HBL.out) k1
      subst hae
      obtain ⟨x, hx⟩ : ∃ x, x = sc[k]'k1 := ⟨_, rfl⟩
      rw [← hx] at c0 c1 c2 c3 c4
      obtain ⟨rl, hrl⟩ : ∃ r, r = x.rows.length := ⟨_, rfl⟩
      rw [← hrl] at c4
      obtain ⟨kd, hkd⟩ : ∃ r, r = x.kind := ⟨_, rfl⟩
      rw [← hkd] at c0
      have HBV := hid (belowA wr (.cells #[.int .i64 kd, .string x.name, .int .i64 x.pr, .int .i64 x.now, .slice ra rl rc] 34))
      have HXV := hid (heap_alloc_new wr (.cells #[.int .i64 kd, .string x.name, .int .i64 x.pr, .int .i64 x.now, .slice ra rl rc] 34))
      clear hbb hx hrl hkd
      go_upto_region 9 with fail
      generalize wr.alloc (.cells #[.int .i64 kd, .string x.name, .int .i64 x.pr, .int .i64 x.now, .slice ra rl rc] 34) = V at *
      obtain ⟨pb, hpb⟩ : ∃ b, b = wr.heap.size := ⟨_, rfl⟩
      rw [← hpb] at HXV ⊢
      clear hpb c0 c1 c2 c3 c4
      have d0 : V.cell? ⟨pb, 0, none⟩ = some (.int .i64 kd) := cell_of_row V _ 0 _ _ _ HXV.out
      have d1 : V.cell? ⟨pb, 1, none⟩ = some (.string x.name) := cell_of_row V _ 1 _ _ _ HXV.out
      have d2 : V.cell? ⟨pb, 2, none⟩ = some (.int .i64 x.pr) := cell_of_row V _ 2 _ _ _ HXV.out
      have d3 : V.cell? ⟨pb, 3, none⟩ = some (.int .i64 x.now) := cell_of_row V _ 3 _ _ _ HXV.out
      have HMV := hid (HM.out.low HBV.out)
      have HSV := hid (show qb ≤ V.heap.size from Nat.le_trans HSZ.out HBV.out.size)
      have HRV := hid (row_low HRO.out HBV.out)
      have HLV := hid (bch HBL.out HBV.out)
      clear HM HRO HBL HBV HSZ
      by_cases h4 : kd = 4
      · subst h4
        have HC := hid (push_any HMV.out HOK.out x.name x.pr HSV.out)
        have HOK2 := hid (okq_psh HOK.out x.name x.pr)
        have HPU := hid (nms_push (p := x.pr) HPE.out (s := x.name) (nx := nx))
        have HNO := hid (psh_no (l := L) (nx := nx) (s := x.name) (p := x.pr))
        obtain ⟨E, hE⟩ : ∃ E, E = pshE L nx x.name := ⟨_, rfl⟩
        rw [← hE] at HC HPU HNO
        clear hE
        go_wp2_with fail
        refine HC.out.mono ?_
        rintro e w2 ⟨rfl, v2, m2, f2, n2⟩
        have HM2 := hid m2
        have HX2 := hid (f2.at HMV.out HXV.out (by decide) (by decide))
        have HR2 := hid (f2.row HMV.out HRV.out (by decide) (by decide))
        have HL2 := hid (qf_below HLV.out HQB.out HMV.out f2)
        clear m2 f2 n2 HC d0 d1 d2 d3
        go_wp2_with fail
        refine (num_any E w2).mono ?_
        rintro e w3 ⟨rfl, rfl⟩
        by_cases hE : E = 0
        · subst hE
          have HPU2 := hid (HPU.out rfl)
          have d1 : w3.cell? ⟨pb, 1, none⟩ = some (.string x.name) := cell_of_row w3 _ 1 _ _ _ HX2.out
          have HBS := hid (belowA w3 (.cells #[.string x.name] 9))
          have HRS := hid (row_low HR2.out HBS.out)
          have HMS := hid (HM2.out.low HBS.out)
          have HXS := hid (show RdG strV 1 (w3.alloc (.cells #[.string x.name] 9)) (some ⟨w3.heap.size, 0, none⟩) [x.name] from Or.inr ⟨_, 0, rfl, by simp, fun j hj q hq => by
            obtain rfl : j = 0 := by simpa using hj
            obtain rfl : q = 0 := by omega
            exact cell_of_row _ _ 0 _ _ _ (heap_alloc_new w3 (.cells #[.string x.name] 9))⟩)
          have HSS := hid (show w.heap.size ≤ (w3.alloc (.cells #[.string x.name] 9)).heap.size from Nat.le_trans HL2.out.size HBS.out.size)
          clear HX2
          go_wp2_with (at_builtin; go_loud (refine wpl_app rfl _ _ 45 rfl w.heap.size 9 i4 _ 1 16 Try.underlying45 hi hz0 hz1 hz2 rfl (by decide) _ _ _ rfl HRS.out (some ⟨w3.heap.size, 0, none⟩) 1 1 (rowX strV [x.name]) rfl (fun e => by cases e) rfl (rdg_news strV_size (by decide) HXS.out) (rowS_one _) (by unfold maxLen; omega) (by omega) HSS.out ?_))
          intro v' w' h2 h3
          rw [← rowX_app] at h2
          have HE := hid (show FrS w qb v' w' from ⟨_, _, v2, I ++ [x.name], HOK2.out, qm_grown HMS.out HRS.out (by decide) (by decide) h3, HPU2.out, by rw [List.length_append, ← HML.out]; exact h2, below_row (bch HL2.out HBS.out) (Nat.le_refl _) HRS.out h3⟩)
          clear h2 h3
          go_wp2_with fail
          exact ⟨⟨k + 1, by omega, by go_num, HE⟩, by simp [intOf]; omega⟩
        · have HE := hid (show FrS w qb (.slice aI m cI) w3 from ⟨_, _, v2, I, HOK2.out, HM2.out, by rw [HNO.out hE]; exact HPE.out, by rw [← HML.out]; exact HR2.out, HL2.out⟩)
          go_wp2_with fail
          exact ⟨⟨k + 1, by omega, by go_num, HE⟩, by simp [intOf]; omega⟩
      by_cases h5 : kd = 5
      · subst h5
        have HC := hid (take_any HMV.out HOK.out.few x.name HSV.out)
        have HOK2 := hid (okq_tke HOK.out x.name)
        have HT := hid (nms_take HPE.out (s := x.name))
        have HEE := hid (show tkeE L x.name = 0 ∨ tkeE L x.name = 252 from by unfold tkeE; split; exact Or.inl rfl; exact Or.inr rfl)
        have HWL := hid (wo_le x.name I)
        obtain ⟨X, hX⟩ : ∃ X, X = tkeX L x.name := ⟨_, rfl⟩
        rw [← hX] at HC
        obtain ⟨E, hE⟩ : ∃ E, E = tkeE L x.name := ⟨_, rfl⟩
        rw [← hE] at HC HT HEE
        unfold wtV at HC
        clear hE hX
        go_wp2_with fail
        refine HC.out.mono ?_
        rintro e w2 ⟨rfl, v2, m2, f2, n2⟩
        have HM2 := hid m2
        have HX2 := hid (f2.at HMV.out HXV.out (by decide) (by decide))
        have HR2 := hid (f2.row HMV.out HRV.out (by decide) (by decide))
        have HL2 := hid (qf_below HLV.out HQB.out HMV.out f2)
        have HB3 := hid (belowA w2 (.cells #[.string X.name, .int .i64 X.pr, .int .i64 X.seq, .int .i64 X.tries, .int .i64 X.til, .bool X.asl] 40))
        clear m2 f2 n2 HC d0 d1 d2 d3
        go_upto_region 15 with fail
        generalize w2.alloc (.cells #[.string X.name, .int .i64 X.pr, .int .i64 X.seq, .int .i64 X.tries, .int .i64 X.til, .bool X.asl] 40) = W3 at *
        have HM3 := hid (HM2.out.low HB3.out)
        have HX3 := hid ((HB3.out.block _ (lt_blk HX2.out)).trans HX2.out)
        have HR3 := hid (row_low HR2.out HB3.out)
        have HL3 := hid (bch HL2.out HB3.out)
        have d1 : W3.cell? ⟨pb, 1, none⟩ = some (.string x.name) := cell_of_row W3 _ 1 _ _ _ HX3.out
        have HWO := hid (without_any I aI cI x.name W3 (rd_s HR3.out) (by rw [← HML.out]; omega))
        rw [← HML.out] at HWO
        clear HM2 HX2 HR2 HL2 HB3 HX3
        go_wp2_with fail
        refine HWO.out.mono ?_
        rintro e w4 ⟨v4, rfl, r4, b4⟩
        obtain ⟨e4, a4, c4, hv4, _⟩ := own_s r4
        subst hv4
        clear e4
        have HE := hid (show FrS w qb (.slice a4 (wo x.name I).length c4) w4 from ⟨_, _, v2, wo x.name I, HOK2.out, HM3.out.low b4, HT.out.1, row_base r4 HL3.out.size, bch HL3.out b4⟩)
        obtain ⟨q, hq⟩ : ∃ q, q = (wo x.name I).length := ⟨_, rfl⟩
        have HQ := hid hq
        rw [← hq] at HE ⊢
        have hqm : q ≤ m := by rw [hq, HML.out]; exact HWL.out
        have hq4 : q ≤ 2048 := by omega
        have HT2 := hid (show E = 0 ↔ q < m from by rw [hq, HML.out]; exact HT.out.2)
        clear r4 b4 hq d1 HWO
        go_wp2_with fail
        refine (num_any E w4).mono ?_
        rintro e w5 ⟨rfl, rfl⟩
        rcases HEE.out with hE | hE
        · subst hE
          have h1 : (q : Int) < (m : Int) := by have := HT2.out.1 rfl; omega
          go_wp2_with fail
          exact ⟨⟨k + 1, by omega, by go_num, HE⟩, by simp [intOf]; omega⟩
        · subst hE
          have h1 : ¬ (q : Int) < (m : Int) := by
            have : ¬ q < m := fun h => absurd (HT2.out.2 h) (by decide)
            omega
          go_wp2_with fail
          exact ⟨⟨k + 1, by omega, by go_num, HE⟩, by simp [intOf]; omega⟩
      by_cases h7 : kd = 7
      · subst h7
        have HC := hid (park_any HMV.out HOK.out x.name x.now HSV.out)
        go_wp2_with fail
        refine HC.out.mono ?_
        rintro e w2 ⟨rfl, v2, m2, f2, n2⟩
        have HE := hid (show FrS w qb (.slice aI m cI) w2 from ⟨prkL L x.name x.now, nx, v2, I, okq_prk HOK.out _ _, m2, by rw [nms_park]; exact HPE.out, by rw [← HML.out]; exact f2.row HMV.out HRV.out (by decide) (by decide), qf_below HLV.out HQB.out HMV.out f2⟩)
        clear m2 f2 n2 HC
        go_wp2_with fail
        exact ⟨⟨k + 1, by omega, by go_num, HE⟩, by simp [intOf]; omega⟩
      by_cases h8 : kd = 8
      · subst h8
        have HC := hid (wake_any HMV.out HOK.out.few)
        go_wp2_with fail
        refine HC.out.mono ?_
        rintro e w2 ⟨rfl, v2, m2, f2, n2⟩
        have HE := hid (show FrS w qb (.slice aI m cI) w2 from ⟨wks L, nx, v2, I, HOK.out.wake, m2, by rw [nms_wake]; exact HPE.out, by rw [← HML.out]; exact f2.row HMV.out HRV.out (by decide) (by decide), qf_below HLV.out HQB.out HMV.out f2⟩)
        clear m2 f2 n2 HC
        go_wp2_with fail
        exact ⟨⟨k + 1, by omega, by go_num, HE⟩, by simp [intOf]; omega⟩
      have HE := hid (show FrS w qb (.slice aI m cI) V from ⟨L, nx, v, I, HOK.out, HMV.out, HPE.out, by rw [← HML.out]; exact HRV.out, HLV.out⟩)
      go_wp2_with fail
      exact ⟨⟨k + 1, by omega, by go_num, HE⟩, by simp [intOf]; omega⟩
    · have g1 : ¬ (k : Int) < (n : Int) := by omega
      have HC := hid (wake_any HM.out HOK.out.few)
      go_wp2_with fail
      refine HC.out.mono ?_
      rintro e w4 ⟨rfl, v4, m4, f4, n4⟩
      have HM4 := hid m4
      have HR4 := hid (f4.row HM.out HRO.out (by decide) (by decide))
      have HL4 := hid (qf_below HBL.out HQB.out HM.out f4)
      have HOK4 := hid (HOK.out.wake)
      have HPE4 := hid (show I.Perm (nms (wks L)) from by rw [nms_wake]; exact HPE.out)
      have HAS := hid (show ∀ (i : Nat) (h : i < (wks L).length), ((wks L)[i]).asl = false from fun i h => wks_asl (List.getElem_mem h))
      have hmL : m = (wks L).length := by rw [HML.out, HPE4.out.length_eq, nms_len]
      obtain ⟨M, hM⟩ : ∃ M, M = wks L := ⟨_, rfl⟩
      rw [← hM] at HM4 HOK4 HPE4 HAS hmL
      have HLI := hid (list_any HM4.out HOK4.out.few)
      clear m4 f4 n4 hM HC HOK HM HPE HRO HBL HSZ
      go_wp2_with fail
      refine HLI.out.mono ?_
      rintro e w5 ⟨v5, rfl, o5, b5⟩
      obtain ⟨_, a5, c5, rfl, _⟩ := own_w o5
      rw [← hmL] at o5 ⊢
      have HB5 := hid (show w.heap.size ≤ w4.heap.size from HL4.out.size)
      have HT0 := hid (show FrT w w4.heap.size qb a5 m c5 M nx 0 (.slice aI m cI) w5 from ⟨v4, I, by rw [frs_zero]; exact HM4.out.low b5, by rw [List.drop_zero]; exact HPE4.out, by rw [← HML.out]; exact row_low HR4.out b5, bch HL4.out b5, o5⟩)
      have HMM := hid hmL
      clear o5 b5 hmL HM4 HR4 HPE4 HLI
      go_wp2_with fail
      go_loopw [4, 11] (fun s4 s11 wr => ∃ i : Nat, i ≤ m ∧ s11 = .int .i64 (i : Int) ∧ Hid (FrT w w4.heap.size qb a5 m c5 M nx i s4 wr)) (fun _ i _ => m - (intOf i).toNat)
      case atStart => exact ⟨0, Nat.zero_le _, rfl, HT0⟩
      case round =>
        obtain ⟨i, hi5, rfl, HH⟩ := hrel
        clear HT0
        obtain ⟨v6, J, mm, pe, ro, bl, rw5⟩ := HH.out
        obtain ⟨eJ, aJ, cJ, hvJ, rJ⟩ := own_s ro
        subst hvJ
        clear eJ rJ
        obtain ⟨j, hj⟩ : ∃ j, j = J.length := ⟨_, rfl⟩
        rw [← hj] at ro ⊢
        have HJL := hid hj
        have hjm : j = m - i := by rw [hj, pe.length_eq, nms_len, List.length_drop, ← HMM.out]
        have HJM := hid hjm
        have hj4 : j ≤ 2048 := by omega
        clear hjm
        by_cases hit : i < m
        · have i1 : (i : Int) < (m : Int) := by omega
          have i2 : (0 : Int) ≤ (i : Int) := by omega
          have hiM : i < M.length := by rw [← HMM.out]; exact hit
          have HLT := hid (left_turn hiM pe)
          have HAX := hid (HAS.out i hiM)
          have HTI := hid (HOK4.out.ti _ (List.getElem_mem hiM)).2
          have HFT := hid (fun h => fair_turn HOK4.out hiM h (HAS.out i hiM))
          have HST := hid (fun h => frs_stay (L := M) hiM h)
          obtain ⟨b, off, hae, hbb, c0, c1, c2, c3, c4, c5'⟩ := cell_w (rd_w rw5) hiM
          subst hae
          obtain ⟨x, hx⟩ : ∃ x, x = M[i]'hiM := ⟨_, rfl⟩
          rw [← hx] at c0 c1 c2 c3 c4 c5' HAX HLT HTI HFT HST
          have HMQ := hid mm
          have HRO := hid ro
          have HBL := hid bl
          have HRW := hid rw5
          have hax := HAX.out
          rw [hax] at c5'
          have hti : ¬ 1099511627840 < x.til := by have := HTI.out; omega
          have HHX := hid hx
          clear mm pe ro bl rw5 hj hx HH hax
          have HWO := hid (without_any J aJ cJ x.name wr (rd_s HRO.out) (by rw [← HJL.out]; omega))
          rw [← HJL.out] at HWO
          go_wp2_with fail
          refine HWO.out.mono ?_
          rintro e w7 ⟨v7, rfl, r7, b7⟩
          obtain ⟨e7, a7, c7, hv7, _⟩ := own_s r7
          subst hv7
          clear e7
          obtain ⟨q, hq⟩ : ∃ q, q = (wo x.name J).length := ⟨_, rfl⟩
          have HQ := hid hq
          have hqj : (j : Int) - 1 = (q : Int) := by have := HLT.out.2.1; rw [← hq, ← HJL.out] at this; omega
          have hwj : IntKind.i64.wrap ((j : Int) - 1) = (q : Int) := by rw [IntKind.wrap_i64]; omega
          rw [← hq] at r7 ⊢
          have HM7 := hid (HMQ.out.low b7)
          have HR7 := hid (row_base r7 HBL.out.size)
          have HW7 := hid (row_low HRW.out b7)
          have HL7 := hid (bch HBL.out b7)
          clear r7 b7 hq c0 c1 c2 c3 c4 c5' HMQ HRO HBL HRW HWO hbb
          obtain ⟨b', off', hae, hbb, c0, c1, c2, c3, c4, c5'⟩ := cell_w (rd_w HW7.out) hiM
          injection hae with hae
          injection hae with hae1 hae2 _
          subst hae1 hae2
          rw [← HHX.out] at c0 c1 c2 c3 c4 c5'
          by_cases htl : x.til ≤ 1099511627776
          · have HF := hid (HFT.out (by omega))
            have HFEW := hid (okq_sub HOK4.out (frs_sub M i)).few
            have HRD := hid (readyq_any HM7.out HFEW.out 1099511627776)
            rw [HF.out.1, HF.out.2.1] at HRD
            go_wp2_with fail
            refine HRD.out.mono ?_
            rintro e w8 ⟨rfl, b8⟩
            have HM8 := hid (HM7.out.low b8)
            have HR8 := hid (row_low HR7.out b8)
            have HW8 := hid (row_low HW7.out b8)
            have HL8 := hid (bch HL7.out b8)
            have HTK := hid (take_any HM8.out HFEW.out x.name (Nat.le_of_lt (lt_blk HM8.out.box)))
            rw [HF.out.2.2.1, HF.out.2.2.2.1, HF.out.2.2.2.2] at HTK
            unfold wtV at HTK
            clear b8 HRD HM7 HR7 HW7 HL7 c0 c1 c2 c3 c4 c5'
            go_wp2_with fail
            refine HTK.out.mono ?_
            rintro e w9 ⟨rfl, v9, m9, f9, n9⟩
            have HM9 := hid m9
            have HR9 := hid (f9.row HM8.out HR8.out (by decide) (by decide))
            have HW9 := hid (f9.row HM8.out HW8.out (by decide) (by decide))
            have HL9 := hid (qf_below HL8.out HQB.out HM8.out f9)
            have HBX := hid (belowA w9 (.cells #[.string x.name, .int .i64 x.pr, .int .i64 x.seq, .int .i64 x.tries, .int .i64 x.til, .bool x.asl] 40))
            have HXX := hid (heap_alloc_new w9 (.cells #[.string x.name, .int .i64 x.pr, .int .i64 x.seq, .int .i64 x.tries, .int .i64 x.til, .bool x.asl] 40))
            clear m9 f9 n9 HTK HM8 HR8 HW8 HL8
            go_upto_region 39 with fail
            generalize w9.alloc (.cells #[.string x.name, .int .i64 x.pr, .int .i64 x.seq, .int .i64 x.tries, .int .i64 x.til, .bool x.asl] 40) = W10 at *
            obtain ⟨tb, htb⟩ : ∃ b, b = w9.heap.size := ⟨_, rfl⟩
            rw [← htb] at HXX ⊢
            clear htb
            have HBD := hid (bch HBX.out (belowD W10))
            have HM10 := hid (HM9.out.low HBD.out)
            have HR10 := hid (row_low HR9.out HBD.out)
            have HW10 := hid (row_low HW9.out HBD.out)
            have HL10 := hid (bch HL9.out HBD.out)
            have hdr : ∀ {p : Addr} {u : Value}, W10.cell? p = some u → W10.drew.cell? p = some u := fun h => h
            have t0 := hdr (cell_of_row W10 _ 0 _ _ _ HXX.out : W10.cell? ⟨tb, 0, none⟩ = some (.string x.name))
            have t1 := hdr (cell_of_row W10 _ 1 _ _ _ HXX.out : W10.cell? ⟨tb, 1, none⟩ = some (.int .i64 x.pr))
            have t2 := hdr (cell_of_row W10 _ 2 _ _ _ HXX.out : W10.cell? ⟨tb, 2, none⟩ = some (.int .i64 x.seq))
            have t3 := hdr (cell_of_row W10 _ 3 _ _ _ HXX.out : W10.cell? ⟨tb, 3, none⟩ = some (.int .i64 x.tries))
            have t4 := hdr (cell_of_row W10 _ 4 _ _ _ HXX.out : W10.cell? ⟨tb, 4, none⟩ = some (.int .i64 x.til))
            have t5 := hdr (cell_of_row W10 _ 5 _ _ _ HXX.out : W10.cell? ⟨tb, 5, none⟩ = some (.bool x.asl))
            obtain ⟨b', off', hae, hbb', c0, c1, c2, c3, c4, c5'⟩ := cell_w (rd_w HW10.out) hiM
            injection hae with hae
            injection hae with hae1 hae2 _
            subst hae1 hae2
            rw [← HHX.out] at c0 c1 c2 c3 c4 c5'
            have hop := run_neW x x
            rw [wtE_refl] at hop
            have guardW' := guardW
            clear hdr hbb hbb' HXX HM9 HR9 HW9 HL9 HBX HBD
            go_region_held3 (fun Y => Y.cell? ⟨b, off + i * 6, none⟩ = some (.string x.name) ∧ Y.cell? ⟨b, off + i * 6 + 1, none⟩ = some (.int .i64 x.pr) ∧ Y.cell? ⟨b, off + i * 6 + 2, none⟩ = some (.int .i64 x.seq) ∧ Y.cell? ⟨b, off + i * 6 + 3, none⟩ = some (.int .i64 x.tries) ∧ Y.cell? ⟨b, off + i * 6 + 4, none⟩ = some (.int .i64 x.til) ∧ Y.cell? ⟨b, off + i * 6 + 5, none⟩ = some (.bool x.asl) ∧ Y.cell? ⟨tb, 0, none⟩ = some (.string x.name) ∧ Y.cell? ⟨tb, 1, none⟩ = some (.int .i64 x.pr) ∧ Y.cell? ⟨tb, 2, none⟩ = some (.int .i64 x.seq) ∧ Y.cell? ⟨tb, 3, none⟩ = some (.int .i64 x.tries) ∧ Y.cell? ⟨tb, 4, none⟩ = some (.int .i64 x.til) ∧ Y.cell? ⟨tb, 5, none⟩ = some (.bool x.asl))
              (exact ⟨c0, c1, c2, c3, c4, c5', t0, t1, t2, t3, t4, t5⟩)
              (first
                | (go_at_call 20; refine (num_any _ _).mono ?_; rintro e w2 ⟨rfl, rfl⟩))
            clear c0 c1 c2 c3 c4 c5' t0 t1 t2 t3 t4 t5
            have HE := hid (show FrT w w4.heap.size qb (some ⟨b, off, none⟩) m c5 M nx (i + 1) (.slice a7 q c7) W10.drew from ⟨v9, wo x.name J, HM10.out, HLT.out.1, by rw [← HQ.out]; exact HR10.out, HL10.out, HW10.out⟩)
            go_wp2_with fail
            exact ⟨⟨i + 1, by omega, by go_num, HE⟩, by simp [intOf]; omega⟩
          · have HE := hid (show FrT w w4.heap.size qb (some ⟨b, off, none⟩) m c5 M nx (i + 1) (.slice a7 q c7) w7 from ⟨v6, wo x.name J, by rw [HST.out (by omega)]; exact HM7.out, HLT.out.1, by rw [← HQ.out]; exact HR7.out, HL7.out, HW7.out⟩)
            go_wp2_with fail
            exact ⟨⟨i + 1, by omega, by go_num, HE⟩, by simp [intOf]; omega⟩
        · have i1 : ¬ (i : Int) < (m : Int) := by omega
          have hj0 : j = 0 := by have := HJM.out; omega
          subst hj0
          have HBE := hid bl
          clear mm pe ro bl rw5 hj HH
          go_wp2_with fail
          go_ret
          exact ⟨by first | rfl | simp, HBE.out⟩
end Go.Proofs.Ytfbagkajbnomoaa.L
