import Derived.Test.YtnclpdgbjefpmaaMgAG
namespace Go.Proofs.Ytnclpdgbjefpmaa.L
open Go.RowKit
set_option linter.unusedVariables false
set_option linter.unusedSimpArgs false
set_option maxHeartbeats 2000000 in
set_option maxRecDepth 100000 in
theorem rising_is {g : Nat} {a : Option Addr} {cap : Nat} {B : List UInt8} {W : World} {k room : Nat} (h : Rm g a cap B W k room) (n : Nat) (hn : n ≤ 4096) :
    Calls Try.prog 81 #[.pointer (some ⟨g, 0, none⟩), .int .i64 (n : Int), .func (.func 82) #[.pointer (some ⟨g, 0, none⟩)] #[], .func (.func 52) #[] #[]] W (Ro (α := List (List Int)) g a cap B (fun _ => room) (fun (l : List (List Int)) v W' => Rw2 W' W.heap.size 25 3 (Value.int .i64) v l) ((nsetC.ris (ltL ltI) n .none).P B k) W) := by
  have HR := hid h
  have HLT := hid (show g < W.heap.size from lt_blk h.box)
  obtain ⟨res, hres⟩ : ∃ r, r = (nsetC.ris (ltL ltI) n .none).P B k := ⟨_, rfl⟩
  rw [← hres]
  have HRES := hid hres
  have HO0 := hid (World.ownsRow_nil W W.heap.size 25 1)
  clear h hres
  go_enter Try.func81, Try.ntmps81
  go_wp2_with fail
  go_loopw [9, 14] (fun v iv wr => ∃ (i kk : Nat) (l : List (List Int)) (vs : List Value) (v0 : Value), i ≤ n ∧ l.length = i ∧ v = v0 ∧ iv = .int .i64 (i : Int) ∧ Hid (wr.ownsRow W.heap.size 25 1 v0 i vs) ∧ Hid (Rws wr W.heap.size 3 (Value.int .i64) l vs) ∧ Hid (Rm g a cap B wr kk room) ∧ Hid (Gb g W wr) ∧ Hid (dbnd ((nsetC.ris (ltL ltI) (n - i) l.getLast?).P B kk) (fun r k' => .ok (l ++ r, k')) = res)) (fun _ iv _ => n - (intOf iv).toNat)
  case atStart => exact ⟨0, k, [], [], _, by omega, rfl, rfl, rfl, HO0, hid (Rws.nil _ _ _ _), HR, hid (Gb.refl _ _), hid (by rw [HRES.out]; show dbnd ((nsetC.ris (ltL ltI) n .none).P B k) (fun r k' => .ok (r, k')) = _; cases (nsetC.ris (ltL ltI) n .none).P B k <;> rfl)⟩
  case round =>
    obtain ⟨i, kk, l, vs, v, hi, hl, hv, rfl, HO, HRW, HRJ, HGB, HE⟩ := hrel
    have hv2 := hv.symm
    subst hv2
    clear hv
    by_cases hlt : i < n
    · have g1 : (i : Int) < (n : Int) := by omega
      obtain ⟨m, hm⟩ : ∃ m, n - i = m + 1 := ⟨n - i - 1, by omega⟩
      have HM := hid hm
      have he := HE.out
      rw [hm, risP_succ] at he
      have HLL := hid hl
      have HT := hid (rset_i HRJ.out)
      have c1 : wr.cell? ⟨g, 1, none⟩ = some (.int .i64 (kk : Int)) := cell_of_row _ _ 1 _ _ _ HRJ.out.box
      obtain ⟨r0, hr0⟩ : ∃ r0, r0 = nsetC.P B kk := ⟨_, rfl⟩
      rw [← hr0] at HT he
      have HR0 := hid hr0
      clear hr0 hm
      cases r0 with
      | error x =>
        obtain ⟨c, p⟩ := x
        have HE3 := hid (show res = .error (c, p) from he.symm)
        clear he hl
        go_wp2_with fail
        refine HT.out.mono ?_
        rintro e w1 ⟨NN, rfl, h3, h4⟩
        have HF := hid h3
        have HGG := hid (HGB.out.trans h4)
        clear h3 h4
        go_wp2_with fail
        refine ⟨rfl, ?_⟩
        rw [HE3.out]
        exact ⟨NN, rfl, HF.out, HGG.out⟩
      | ok y =>
        obtain ⟨x, k1⟩ := y
        have HFEW := hid (set_few_i HRJ.out.le HR0.out.symm)
        have he : dbnd (if okB (ltL ltI) l.getLast? x = true then dbnd ((nsetC.ris (ltL ltI) m (some x)).P B k1) (fun r k2 => .ok (x :: r, k2)) else .error (204, kk)) (fun r k' => .ok (l ++ r, k')) = res := he
        by_cases hi0 : i = 0
        · subst hi0
          obtain rfl : l = [] := List.eq_nil_of_length_eq_zero hl
          obtain rfl : vs = [] := List.eq_nil_of_length_eq_zero HRW.out.len
          have HEN := hid (show dbnd ((nsetC.ris (ltL ltI) (n - (0 + 1)) (([] : List (List Int)) ++ [x]).getLast?).P B k1) (fun r k' => .ok (([] ++ [x]) ++ r, k')) = res from by
            rw [← he, show n - (0 + 1) = m by have := HM.out; omega]
            show _ = dbnd (dbnd ((nsetC.ris (ltL ltI) m (some x)).P B k1) (fun r k2 => .ok (x :: r, k2))) (fun r k' => .ok ([] ++ r, k'))
            show dbnd ((nsetC.ris (ltL ltI) m (some x)).P B k1) _ = _
            cases (nsetC.ris (ltL ltI) m (some x)).P B k1 <;> rfl)
          clear he hl
          go_wp2_with fail
          refine HT.out.mono ?_
          rintro e w1 ⟨vv, rfl, hvv, h1, h2⟩
          obtain ⟨xa, xc, rfl, _⟩ := own_form hvv
          have HX := hid hvv
          clear hvv
          go_upto_region 9 with fail
          have HA := hid (belowA w1 (.cells #[.slice xa x.length xc] 25))
          have HOW := hid (row_gb HO.out h2 HLT.out)
          have HRW1 := hid (HRW.out.gb h2 HLT.out)
          have HR1 := hid h1
          have HG1 := hid (HGB.out.trans h2)
          have HBS := hid (show W.heap.size ≤ w1.heap.size from HG1.out.size)
          have HWR := hid (show W.heap.size ≤ wr.heap.size from HGB.out.size)
          clear h1 h2
          obtain ⟨va, vn, vc, rfl⟩ : ∃ va vn vc, v = .slice va vn vc := by
            rcases HOW.out.2 with ⟨e, _⟩ | ⟨_, _, _, e, _⟩
            · exact ⟨_, _, _, e⟩
            · exact ⟨_, _, _, e⟩
          go_wp2_with (at_builtin; go_loud (refine wpl_is rfl _ _ rfl W.heap.size (.slice va vn vc) 0 ([] : List Value) (.slice xa x.length xc) rfl HOW.out rfl (by omega) HBS.out rfl ?_))
          intro v' w2 ho' hg'
          obtain ⟨va', vn', vc', rfl⟩ : ∃ a1 a2 a3, v' = .slice a1 a2 a3 := by
            rcases ho'.2 with ⟨e, _⟩ | ⟨_, _, _, e, _⟩
            · exact ⟨_, _, _, e⟩
            · exact ⟨_, _, _, e⟩
          have HR2 := hid (rm_row HR1.out HOW.out HLT.out hg')
          have HG2 := hid (gb_row HOW.out HG1.out hg')
          have HO2 := hid ho'
          have HRW2 := hid ((HRW1.out.grow HOW.out (by decide) hg').snoc (HX.out.kept hg' (row_ne HX.out HOW.out (by decide))) HWR.out (fun j hj k hk => ((HRW.out.row j hj).lt k hk).2) HFEW.out)
          clear ho' hg'
          go_wp2_with fail
          exact ⟨⟨0 + 1, k1, ([] : List (List Int)) ++ [x], ([] : List Value) ++ [.slice xa x.length xc], .slice va' vn' vc', by omega, by simp [HLL.out], rfl, by go_num, HO2, HRW2, HR2, HG2, HEN⟩, by simp [intOf]; omega⟩
        · obtain ⟨i', rfl⟩ : ∃ i', i = i' + 1 := ⟨i - 1, by omega⟩
          obtain ⟨q, hq⟩ : ∃ q, l.getLast? = some q := by
            cases hql : l.getLast? with
            | none => rw [List.getLast?_eq_none_iff] at hql; rw [hql] at hl; cases hl
            | some q => exact ⟨q, rfl⟩
          have hqd : l.getD i' [] = q := by
            rw [List.getLast?_eq_getElem?, hl] at hq
            rw [List.getD_eq_getElem?_getD, show i' = i' + 1 - 1 by omega, hq]; rfl
          rw [hq] at he
          have HQ := hid hq
          obtain ⟨gb, vcap, hve⟩ : ∃ gb vcap, v = .slice (some ⟨gb, 0, none⟩) (i' + 1) vcap ∧ i' + 1 ≤ vcap ∧ vcap ≤ maxLen := by
            rcases HO.out.2 with ⟨_, h0⟩ | ⟨gb, vcap, cur, e, _, _, h3, h4, _⟩
            · omega
            · exact ⟨gb, vcap, e, h3, h4⟩
          obtain ⟨rfl, hvc, hvm⟩ := hve
          obtain ⟨qa, qc, hqe⟩ : ∃ qa qc, vs.getD i' undef = .slice qa q.length qc := by
            have h1 := HRW.out.row i' (by omega)
            rw [hqd] at h1
            obtain ⟨qa, qc, h2, _⟩ := own_form h1
            exact ⟨qa, qc, h2⟩
          have HQR := hid (fun (w' : World) (hh : Rws w' W.heap.size 3 (Value.int .i64) l vs) => (show RdV w' qa (q.map (Value.int .i64)) from by
            have h1 := hh.row i' (by omega)
            rw [hqd] at h1
            obtain ⟨qa', qc', h2, h3⟩ := own_form h1
            rw [hqe] at h2
            injection h2 with h2
            rw [h2]
            exact h3))
          have HQF := hid (show q.length ≤ 1000 from by have := HRW.out.few i' (by omega); rw [hqd] at this; exact this)
          have HCE := hid (fun (w' : World) (hh : w'.ownsRow W.heap.size 25 1 (.slice (some ⟨gb, 0, none⟩) (i' + 1) vcap) (i' + 1) vs) => (show w'.cell? ⟨gb, i', none⟩ = some (.slice qa q.length qc) from by
            have h5 := hh.cells (g := gb) rfl i' (.slice qa q.length qc) (by rw [← hqe, List.getD_eq_getElem?_getD, List.getElem?_eq_getElem (by rw [HRW.out.len]; omega)]; rfl)
            rw [Go.WideShapes.add_plain] at h5
            simpa using h5))
          have HG := hid (fun w => giveup_any 204 kk w)
          have e7 : IntKind.i64.wrap (i' : Int) = (i' : Int) := by rw [IntKind.wrap_i64]; omega
          have g3 : (0 : Int) < (i' : Int) + 1 := by omega
          by_cases hok : ltL ltI q x = true
          · have HEN := hid (show dbnd ((nsetC.ris (ltL ltI) (n - (i' + 1 + 1)) (l ++ [x]).getLast?).P B k1) (fun r k' => .ok ((l ++ [x]) ++ r, k')) = res from by
              rw [← he, show n - (i' + 1 + 1) = m by have := HM.out; omega, if_pos (show okB (ltL ltI) (some q) x = true from hok), List.getLast?_append]
              show dbnd ((nsetC.ris (ltL ltI) m (some x)).P B k1) _ = _
              cases (nsetC.ris (ltL ltI) m (some x)).P B k1 with
              | error e => rfl
              | ok y => simp [dbnd])
            have HOK := hid hok
            clear he hl hok hq hqd hqe
            go_wp2_with fail
            refine HT.out.mono ?_
            rintro e w1 ⟨vv, rfl, hvv, h1, h2⟩
            obtain ⟨xa, xc, rfl, hxr⟩ := own_form hvv
            have HX := hid hvv
            have HCM := hid (slcmp_i (Value.int .i64) 0 ltI q x qa xa qc xc w1 (by have := HQF.out; omega) (by have := HFEW.out; omega) (HQR.out w1 (HRW.out.gb h2 HLT.out)) hxr (fun a b => cmp_i a b w1))
            clear hvv hxr
            have y1 := HCE.out w1 (row_gb HO.out h2 HLT.out)
            go_wp2_with fail
            refine HCM.out.mono ?_
            rintro e w1' ⟨z, rfl, hz, hww⟩
            have hw2 := hww.symm
            subst hw2
            have z1 : z < 0 := hz.2 HOK.out
            have z2 : ¬ (0 : Int) ≤ z := by omega
            clear hww hz
            clear y1
            go_upto_region 9 with fail
            have HA := hid (belowA w1 (.cells #[.slice xa x.length xc] 25))
            have HOW := hid (row_gb HO.out h2 HLT.out)
            have HRW1 := hid (HRW.out.gb h2 HLT.out)
            have HR1 := hid h1
            have HG1 := hid (HGB.out.trans h2)
            have HBS := hid (show W.heap.size ≤ w1.heap.size from HG1.out.size)
            have HWR := hid (show W.heap.size ≤ wr.heap.size from HGB.out.size)
            clear h1 h2
            go_wp2_with (at_builtin; go_loud (refine wpl_is rfl _ _ rfl W.heap.size (.slice (some ⟨gb, 0, none⟩) (i' + 1) vcap) (i' + 1) vs (.slice xa x.length xc) rfl HOW.out rfl (by omega) HBS.out rfl ?_))
            intro v' w2 ho' hg'
            obtain ⟨va', vn', vc', rfl⟩ : ∃ a1 a2 a3, v' = .slice a1 a2 a3 := by
              rcases ho'.2 with ⟨e, _⟩ | ⟨_, _, _, e, _⟩
              · exact ⟨_, _, _, e⟩
              · exact ⟨_, _, _, e⟩
            have HR2 := hid (rm_row HR1.out HOW.out HLT.out hg')
            have HG2 := hid (gb_row HOW.out HG1.out hg')
            have HO2 := hid ho'
            have HRW2 := hid ((HRW1.out.grow HOW.out (by decide) hg').snoc (HX.out.kept hg' (row_ne HX.out HOW.out (by decide))) HWR.out (fun j hj k hk => ((HRW.out.row j hj).lt k hk).2) HFEW.out)
            clear ho' hg'
            go_wp2_with fail
            exact ⟨⟨(i' + 1) + 1, k1, l ++ [x], vs ++ [.slice xa x.length xc], .slice va' vn' vc', by omega, by simp [HLL.out], rfl, by go_num, HO2, HRW2, HR2, HG2, HEN⟩, by simp [intOf]; omega⟩
          · have HE3 := hid (show res = .error (204, kk) from by rw [← he, if_neg (show ¬ okB (ltL ltI) (some q) x = true from hok)]; rfl)
            have HOK := hid hok
            clear he hl hok hq hqd hqe
            go_wp2_with fail
            refine HT.out.mono ?_
            rintro e w1 ⟨vv, rfl, hvv, h1, h2⟩
            obtain ⟨xa, xc, rfl, hxr⟩ := own_form hvv
            have HX := hid hvv
            have HCM := hid (slcmp_i (Value.int .i64) 0 ltI q x qa xa qc xc w1 (by have := HQF.out; omega) (by have := HFEW.out; omega) (HQR.out w1 (HRW.out.gb h2 HLT.out)) hxr (fun a b => cmp_i a b w1))
            clear hvv hxr
            have y1 := HCE.out w1 (row_gb HO.out h2 HLT.out)
            have HG1 := hid (HGB.out.trans h2)
            clear h1 h2
            go_wp2_with fail
            refine HCM.out.mono ?_
            rintro e w1' ⟨z, rfl, hz, hww⟩
            have hw2 := hww.symm
            subst hw2
            have z1 : ¬ z < 0 := fun h => HOK.out (hz.1 h)
            have z2 : (0 : Int) ≤ z := by omega
            clear hww hz
            clear y1
            go_wp2_with fail
            refine (HG.out _).mono ?_
            rintro e w2 ⟨NN, rfl, h3, h4⟩
            have HF := hid h3
            have HGG := hid (HG1.out.trans (Gb.of h4))
            clear h3 h4
            go_wp2_with fail
            refine ⟨rfl, ?_⟩
            rw [HE3.out]
            exact ⟨NN, rfl, HF.out, HGG.out⟩
    · obtain rfl : i = n := by omega
      have HE3 := hid (show res = .ok (l, kk) from by
        rw [← HE.out, Nat.sub_self]
        show dbnd (.ok ([], kk)) _ = _
        simp [dbnd])
      obtain ⟨va, vn, vc, rfl⟩ : ∃ va vn vc, v = .slice va vn vc := by
        rcases HO.out.2 with ⟨e, _⟩ | ⟨_, _, _, e, _⟩
        · exact ⟨_, _, _, e⟩
        · exact ⟨_, _, _, e⟩
      go_wp2_with fail
      go_ret
      rw [HE3.out]
      exact ⟨_, rfl, ⟨vs, (show wr.ownsRow W.heap.size 25 1 _ l.length _ from by rw [hl]; exact HO.out), HRW.out⟩, HRJ.out, HGB.out⟩
end Go.Proofs.Ytnclpdgbjefpmaa.L
