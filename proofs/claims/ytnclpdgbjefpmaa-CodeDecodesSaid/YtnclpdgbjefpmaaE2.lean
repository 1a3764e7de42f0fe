import Derived.Test.YtnclpdgbjefpmaaMgAF
namespace Go.Proofs.Ytnclpdgbjefpmaa.L
open Go.RowKit
set_option linter.unusedVariables false
set_option linter.unusedSimpArgs false
set_option maxHeartbeats 2000000 in
set_option maxRecDepth 100000 in
theorem rising_s {g : Nat} {a : Option Addr} {cap : Nat} {B : List UInt8} {W : World} {k room : Nat} (h : Rm g a cap B W k room) (n : Nat) (hn : n ≤ 4096) :
    Calls Try.prog 74 #[.pointer (some ⟨g, 0, none⟩), .int .i64 (n : Int), .func (.func 76) #[.pointer (some ⟨g, 0, none⟩)] #[], .func (.func 43) #[] #[]] W (Ro (α := List ByteArray) g a cap B (fun _ => room) (fun (l : List ByteArray) v W' => W'.ownsRow W.heap.size 9 1 v l.length (l.map Value.string)) ((textC.ris ltS n .none).P B k) W) := by
  have HR := hid h
  have HLT := hid (show g < W.heap.size from lt_blk h.box)
  obtain ⟨res, hres⟩ : ∃ r, r = (textC.ris ltS n .none).P B k := ⟨_, rfl⟩
  rw [← hres]
  have HRES := hid hres
  have HO0 := hid (World.ownsRow_nil W W.heap.size 9 1)
  clear h hres
  go_enter Try.func74, Try.ntmps74
  go_wp2_with fail
  go_loopw [9, 14] (fun v iv wr => ∃ (i kk : Nat) (l : List ByteArray) (v0 : Value), i ≤ n ∧ l.length = i ∧ v = v0 ∧ iv = .int .i64 (i : Int) ∧ Hid (wr.ownsRow W.heap.size 9 1 v0 i (l.map Value.string)) ∧ Hid (Rm g a cap B wr kk room) ∧ Hid (Gb g W wr) ∧ Hid (dbnd ((textC.ris ltS (n - i) l.getLast?).P B kk) (fun r k' => .ok (l ++ r, k')) = res)) (fun _ iv _ => n - (intOf iv).toNat)
  case atStart => exact ⟨0, k, [], _, by omega, rfl, rfl, rfl, HO0, HR, hid (Gb.refl _ _), hid (by rw [HRES.out]; show dbnd ((textC.ris ltS n .none).P B k) (fun r k' => .ok (r, k')) = _; cases (textC.ris ltS n .none).P B k <;> rfl)⟩
  case round =>
    obtain ⟨i, kk, l, v, hi, hl, hv, rfl, HO, HRJ, HGB, HE⟩ := hrel
    have hv2 := hv.symm
    subst hv2
    clear hv
    by_cases hlt : i < n
    · have g1 : (i : Int) < (n : Int) := by omega
      obtain ⟨m, hm⟩ : ∃ m, n - i = m + 1 := ⟨n - i - 1, by omega⟩
      have HM := hid hm
      have he := HE.out
      rw [hm, risP_succ] at he
      have HLL := hid hl
      have HT := hid (rtext_any HRJ.out)
      have c1 : wr.cell? ⟨g, 1, none⟩ = some (.int .i64 (kk : Int)) := cell_of_row _ _ 1 _ _ _ HRJ.out.box
      obtain ⟨r0, hr0⟩ : ∃ r0, r0 = textC.P B kk := ⟨_, rfl⟩
      rw [← hr0] at HT he
      clear hr0 hm
      cases r0 with
      | error x =>
        obtain ⟨c, p⟩ := x
        have HE3 := hid (show res = .error (c, p) from he.symm)
        clear he hl
        go_wp2_with fail
        refine HT.out.mono ?_
        rintro e w1 ⟨NN, rfl, h3, h4⟩
        have HF := hid h3
        have HGG := hid (HGB.out.trans h4)
        clear h3 h4
        go_wp2_with fail
        refine ⟨rfl, ?_⟩
        rw [HE3.out]
        exact ⟨NN, rfl, HF.out, HGG.out⟩
      | ok y =>
        obtain ⟨x, k1⟩ := y
        have he : dbnd (if okB ltS l.getLast? x = true then dbnd ((textC.ris ltS m (some x)).P B k1) (fun r k2 => .ok (x :: r, k2)) else .error (204, kk)) (fun r k' => .ok (l ++ r, k')) = res := he
        by_cases hi0 : i = 0
        · subst hi0
          obtain rfl : l = [] := List.eq_nil_of_length_eq_zero hl
          have HEN := hid (show dbnd ((textC.ris ltS (n - (0 + 1)) (([] : List ByteArray) ++ [x]).getLast?).P B k1) (fun r k' => .ok (([] ++ [x]) ++ r, k')) = res from by
            rw [← he, show n - (0 + 1) = m by have := HM.out; omega]
            show _ = dbnd (dbnd ((textC.ris ltS m (some x)).P B k1) (fun r k2 => .ok (x :: r, k2))) (fun r k' => .ok ([] ++ r, k'))
            show dbnd ((textC.ris ltS m (some x)).P B k1) _ = _
            cases (textC.ris ltS m (some x)).P B k1 <;> rfl)
          clear he hl
          go_wp2_with fail
          refine HT.out.mono ?_
          rintro e w1 ⟨vv, rfl, rfl, h1, h2⟩
          go_upto_region 9 with fail
          have HA := hid (belowA w1 (.cells #[.string x] 9))
          have HOW := hid (row_gb HO.out h2 HLT.out)
          have HR1 := hid h1
          have HG1 := hid (HGB.out.trans h2)
          have HBS := hid (show W.heap.size ≤ w1.heap.size from HG1.out.size)
          clear h1 h2
          obtain ⟨va, vn, vc, rfl⟩ : ∃ va vn vc, v = .slice va vn vc := by
            rcases HOW.out.2 with ⟨e, _⟩ | ⟨_, _, _, e, _⟩
            · exact ⟨_, _, _, e⟩
            · exact ⟨_, _, _, e⟩
          go_wp2_with (at_builtin; go_loud (refine wpl_s rfl _ _ rfl W.heap.size (.slice va vn vc) 0 (([] : List ByteArray).map Value.string) (.string x) rfl HOW.out rfl (by omega) HBS.out rfl ?_))
          intro v' w2 ho' hg'
          obtain ⟨va', vn', vc', rfl⟩ : ∃ a1 a2 a3, v' = .slice a1 a2 a3 := by
            rcases ho'.2 with ⟨e, _⟩ | ⟨_, _, _, e, _⟩
            · exact ⟨_, _, _, e⟩
            · exact ⟨_, _, _, e⟩
          have HR2 := hid (rm_row HR1.out HOW.out HLT.out hg')
          have HG2 := hid (gb_row HOW.out HG1.out hg')
          have HO2 := hid (show w2.ownsRow W.heap.size 9 1 (.slice va' vn' vc') (0 + 1) ((([] : List ByteArray) ++ [x]).map Value.string) from by rw [List.map_append]; exact ho')
          clear ho' hg'
          go_wp2_with fail
          exact ⟨⟨0 + 1, k1, ([] : List ByteArray) ++ [x], .slice va' vn' vc', by omega, by simp [HLL.out], rfl, by go_num, HO2, HR2, HG2, HEN⟩, by simp [intOf]; omega⟩
        · obtain ⟨i', rfl⟩ : ∃ i', i = i' + 1 := ⟨i - 1, by omega⟩
          obtain ⟨q, hq⟩ : ∃ q, l.getLast? = some q := by
            cases hql : l.getLast? with
            | none => rw [List.getLast?_eq_none_iff] at hql; rw [hql] at hl; cases hl
            | some q => exact ⟨q, rfl⟩
          have hqd : l.getD i' ⟨#[]⟩ = q := by
            rw [List.getLast?_eq_getElem?, hl] at hq
            rw [List.getD_eq_getElem?_getD, show i' = i' + 1 - 1 by omega, hq]; rfl
          rw [hq] at he
          have HQ := hid hq
          obtain ⟨gb, vcap, hve⟩ : ∃ gb vcap, v = .slice (some ⟨gb, 0, none⟩) (i' + 1) vcap ∧ i' + 1 ≤ vcap ∧ vcap ≤ maxLen := by
            rcases HO.out.2 with ⟨_, h0⟩ | ⟨gb, vcap, cur, e, _, _, h3, h4, _⟩
            · omega
            · exact ⟨gb, vcap, e, h3, h4⟩
          obtain ⟨rfl, hvc, hvm⟩ := hve
          have HCE := hid (fun (w' : World) (hh : w'.ownsRow W.heap.size 9 1 (.slice (some ⟨gb, 0, none⟩) (i' + 1) vcap) (i' + 1) (l.map Value.string)) => (show w'.cell? ⟨gb, i', none⟩ = some (Value.string q) from by
            have h5 := hh.cells (g := gb) rfl i' (Value.string q) (by rw [List.getElem?_map, ← hqd, List.getD_eq_getElem?_getD, List.getElem?_eq_getElem (by omega)]; rfl)
            rw [Go.WideShapes.add_plain] at h5
            simpa using h5))
          have HCM := hid (cmp_s q x)
          have HG := hid (fun w => giveup_any 204 kk w)
          have e7 : IntKind.i64.wrap (i' : Int) = (i' : Int) := by rw [IntKind.wrap_i64]; omega
          have g3 : (0 : Int) < (i' : Int) + 1 := by omega
          by_cases hok : ltS q x = true
          · have HEN := hid (show dbnd ((textC.ris ltS (n - (i' + 1 + 1)) (l ++ [x]).getLast?).P B k1) (fun r k' => .ok ((l ++ [x]) ++ r, k')) = res from by
              rw [← he, show n - (i' + 1 + 1) = m by have := HM.out; omega, if_pos (show okB ltS (some q) x = true from hok), List.getLast?_append]
              show dbnd ((textC.ris ltS m (some x)).P B k1) _ = _
              cases (textC.ris ltS m (some x)).P B k1 with
              | error e => rfl
              | ok y => simp [dbnd])
            obtain ⟨z, hz⟩ : ∃ z, z = cmpV ltS q x := ⟨_, rfl⟩
            have z1 : z < 0 := by rw [hz]; exact (cmpV_neg _ _ _).2 hok
            have z2 : ¬ (0 : Int) ≤ z := by omega
            rw [← hz] at HCM
            clear he hl hz hok hq hqd
            go_wp2_with fail
            refine HT.out.mono ?_
            rintro e w1 ⟨vv, rfl, rfl, h1, h2⟩
            have y1 := HCE.out w1 (row_gb HO.out h2 HLT.out)
            go_wp2_with fail
            refine (HCM.out w1).mono ?_
            rintro e w1' ⟨rfl, hww⟩
            have hw2 := hww.symm
            subst hw2
            clear hww
            clear y1
            go_upto_region 9 with fail
            have HA := hid (belowA w1 (.cells #[.string x] 9))
            have HOW := hid (row_gb HO.out h2 HLT.out)
            have HR1 := hid h1
            have HG1 := hid (HGB.out.trans h2)
            have HBS := hid (show W.heap.size ≤ w1.heap.size from HG1.out.size)
            clear h1 h2
            go_wp2_with (at_builtin; go_loud (refine wpl_s rfl _ _ rfl W.heap.size (.slice (some ⟨gb, 0, none⟩) (i' + 1) vcap) (i' + 1) ((l).map Value.string) (.string x) rfl HOW.out rfl (by omega) HBS.out rfl ?_))
            intro v' w2 ho' hg'
            obtain ⟨va', vn', vc', rfl⟩ : ∃ a1 a2 a3, v' = .slice a1 a2 a3 := by
              rcases ho'.2 with ⟨e, _⟩ | ⟨_, _, _, e, _⟩
              · exact ⟨_, _, _, e⟩
              · exact ⟨_, _, _, e⟩
            have HR2 := hid (rm_row HR1.out HOW.out HLT.out hg')
            have HG2 := hid (gb_row HOW.out HG1.out hg')
            have HO2 := hid (show w2.ownsRow W.heap.size 9 1 (.slice va' vn' vc') ((i' + 1) + 1) ((l ++ [x]).map Value.string) from by rw [List.map_append]; exact ho')
            clear ho' hg'
            go_wp2_with fail
            exact ⟨⟨(i' + 1) + 1, k1, l ++ [x], .slice va' vn' vc', by omega, by simp [HLL.out], rfl, by go_num, HO2, HR2, HG2, HEN⟩, by simp [intOf]; omega⟩
          · have HE3 := hid (show res = .error (204, kk) from by rw [← he, if_neg (show ¬ okB ltS (some q) x = true from hok)]; rfl)
            obtain ⟨z, hz⟩ : ∃ z, z = cmpV ltS q x := ⟨_, rfl⟩
            have z1 : ¬ z < 0 := by rw [hz, cmpV_neg]; exact hok
            have z2 : (0 : Int) ≤ z := by omega
            rw [← hz] at HCM
            clear he hl hz hok hq hqd
            go_wp2_with fail
            refine HT.out.mono ?_
            rintro e w1 ⟨vv, rfl, rfl, h1, h2⟩
            have y1 := HCE.out w1 (row_gb HO.out h2 HLT.out)
            have HG1 := hid (HGB.out.trans h2)
            clear h1 h2
            go_wp2_with fail
            refine (HCM.out w1).mono ?_
            rintro e w1' ⟨rfl, hww⟩
            have hw2 := hww.symm
            subst hw2
            clear hww
            clear y1
            go_wp2_with fail
            refine (HG.out _).mono ?_
            rintro e w2 ⟨NN, rfl, h3, h4⟩
            have HF := hid h3
            have HGG := hid (HG1.out.trans (Gb.of h4))
            clear h3 h4
            go_wp2_with fail
            refine ⟨rfl, ?_⟩
            rw [HE3.out]
            exact ⟨NN, rfl, HF.out, HGG.out⟩
    · obtain rfl : i = n := by omega
      have HE3 := hid (show res = .ok (l, kk) from by
        rw [← HE.out, Nat.sub_self]
        show dbnd (.ok ([], kk)) _ = _
        simp [dbnd])
      obtain ⟨va, vn, vc, rfl⟩ : ∃ va vn vc, v = .slice va vn vc := by
        rcases HO.out.2 with ⟨e, _⟩ | ⟨_, _, _, e, _⟩
        · exact ⟨_, _, _, e⟩
        · exact ⟨_, _, _, e⟩
      go_wp2_with fail
      go_ret
      rw [HE3.out]
      exact ⟨_, rfl, (show wr.ownsRow W.heap.size 9 1 _ l.length _ from by rw [hl]; exact HO.out), HRJ.out, HGB.out⟩
end Go.Proofs.Ytnclpdgbjefpmaa.L
