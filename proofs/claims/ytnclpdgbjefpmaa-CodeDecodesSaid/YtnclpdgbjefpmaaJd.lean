import Derived.Test.YtnclpdgbjefpmaaJc
namespace Go.Proofs.Ytnclpdgbjefpmaa.L
open Go.RowKit
set_option linter.unusedVariables false
set_option linter.unusedSimpArgs false
theorem dm_row {g : Nat} {a : Option Addr} {cap : Nat} {B : List UInt8} {W W1 W2 : World} {k cd bd n size : Nat} {e : TypeId} {v : Value} {xs : List Value} (h : Dm g a cap B W1 k cd bd) (hr : W1.ownsRow W.heap.size e size v n xs) (hlt : g < W.heap.size) (hg : W1.grownBy W2 v.ownBlock) : Dm g a cap B W2 k cd bd := by
  have hk : ∀ j, j ≤ g → W2.heap[j]? = W1.heap[j]? := fun j hj => hg.block j (by have := lt_blk h.box; omega) (fun he => by have := (hr.lt j he.symm).1; omega)
  refine ⟨(hk g (Nat.le_refl _)).trans h.box, ?_, h.low, h.le, h.len, h.cpl, h.cpm⟩
  rcases h.row with h0 | ⟨b, off, rfl, h1⟩
  · exact Or.inl h0
  · refine Or.inr ⟨b, off, rfl, fun j hj => ?_⟩
    have h3 := h.low b off none rfl
    exact (World.cell?_of_block (a := ⟨b, off + j, none⟩) (hk b (by omega))).trans (h1 j hj)
theorem slice_own {W : World} {base n size : Nat} {e : TypeId} {v : Value} {xs : List Value} (h : W.ownsRow base e size v n xs) : ∃ va vn vc, v = .slice va vn vc := by
  rcases h.2 with ⟨e, _⟩ | ⟨_, _, _, e, _⟩
  · exact ⟨_, _, _, e⟩
  · exact ⟨_, _, _, e⟩
/-- The state while a list is read. -/
def Lst {α : Type} [Inhabited α] (g : Nat) (a : Option Addr) (cap : Nat) (B : List UInt8) (C : Cod α) (lt : α → α → Bool) (n i : Nat) (l : List α) (res : DR (List α)) (w : World) : Prop :=
  (∃ kk, Dm g a cap B w kk 0 0 ∧ dbnd ((C.ris lt (n - i) l.getLast?).P B kk) (fun r k' => .ok (l ++ r, k')) = res) ∨ ∃ c p kk, c ≠ 0 ∧ Dm g a cap B w kk c p ∧ res = .error (c, p)
theorem less_no {q x : ByteArray} (h : ltS q x = true) : Op.bytesLess x.toList q.toList = false ∧ (x.toList == q.toList) = false := by
  have h : Op.bytesLess q.toList x.toList = true := h
  constructor
  · cases hh : Op.bytesLess x.toList q.toList with
    | false => rfl
    | true => have := less_trans _ _ _ h hh; rw [less_irrefl] at this; cases this
  · cases hh : (x.toList == q.toList) with
    | false => rfl
    | true =>
      rw [beq_iff_eq] at hh
      rw [hh, less_irrefl] at h
      cases h
theorem less_yes {q x : ByteArray} (h : ¬ ltS q x = true) : Op.bytesLess x.toList q.toList = true ∨ x = q := by
  rcases less_total x.toList q.toList with h1 | h1 | h1
  · exact Or.inl h1
  · refine Or.inr ?_
    rw [ByteArray.toList_eq, ByteArray.toList_eq] at h1
    obtain ⟨⟨a⟩⟩ := x
    obtain ⟨⟨b⟩⟩ := q
    cases h1
    rfl
  · exact absurd h1 h
set_option maxHeartbeats 2000000 in
set_option maxRecDepth 100000 in
theorem dsx_any {g : Nat} {a : Option Addr} {cap : Nat} {B : List UInt8} {W : World} {k : Nat} (h : Dm g a cap B W k 0 0) (n : Nat) (hn : n ≤ 4096) :
    Calls Try.prog 31 #[.pointer (some ⟨g, 0, none⟩), .int .i64 (n : Int)] W (Do (α := List ByteArray) g a cap B (fun (l : List ByteArray) v W' => W'.ownsRow W.heap.size 9 1 v l.length (l.map Value.string)) (fun v W' => ∃ l : List ByteArray, l.length ≤ n ∧ W'.ownsRow W.heap.size 9 1 v l.length (l.map Value.string)) ((textC.ris ltS n .none).P B k) W) := by
  have HR := hid h
  have HLT := hid (show g < W.heap.size from lt_blk h.box)
  obtain ⟨res, hres⟩ : ∃ r, r = (textC.ris ltS n .none).P B k := ⟨_, rfl⟩
  rw [← hres]
  have HRES := hid hres
  have HA := hid (belowA W (.cells #[] 9))
  have HO0 := hid (World.ownsRow_lit (base := W.heap.size) (e := 9) (size := 1) W #[] 0 (Nat.le_refl _) (by unfold maxLen; omega) rfl)
  have HR := hid (HR.out.low' HA.out)
  have HG0 := hid (Gb.of (g := g) HA.out)
  clear h hres HA
  go_enter Try.func31, Try.ntmps31
  go_wp2_with fail
  go_loopw [5, 6] (fun v iv wr => ∃ (i : Nat) (l : List ByteArray) (v0 : Value), i ≤ n ∧ l.length = i ∧ v = v0 ∧ iv = .int .i64 (i : Int) ∧ Hid (wr.ownsRow W.heap.size 9 1 v0 i (l.map Value.string)) ∧ Hid (Gb g W wr) ∧ Hid (Lst g a cap B textC ltS n i l res wr)) (fun _ iv _ => n - (intOf iv).toNat)
  case atStart => exact ⟨0, [], _, by omega, rfl, rfl, rfl, HO0, HG0, hid (Or.inl ⟨k, HR.out, by rw [HRES.out]; show dbnd ((textC.ris ltS n .none).P B k) (fun r k' => .ok (r, k')) = _; cases (textC.ris ltS n .none).P B k <;> rfl⟩)⟩
  case round =>
    obtain ⟨i, l, v, hi, hl, hv, rfl, HO, HGB, HS⟩ := hrel
    have hv2 := hv.symm
    subst hv2
    clear hv
    rcases HS.out with ⟨kk, hd, hE⟩ | ⟨c, p, kk, hc0, hd, hE⟩
    · have HRJ := hid hd
      have HE := hid hE
      clear hd hE HS
      by_cases hlt : i < n
      · have g1 : (i : Int) < (n : Int) := by omega
        obtain ⟨m, hm⟩ : ∃ m, n - i = m + 1 := ⟨n - i - 1, by omega⟩
        have HM := hid hm
        have he := HE.out
        rw [hm, risP_succ] at he
        have HLL := hid hl
        have HT := hid (dtxt_any HRJ.out)
        have c1 : wr.cell? ⟨g, 1, none⟩ = some (.int .i64 (kk : Int)) := cell_of_row _ _ 1 _ _ _ HRJ.out.box
        have c2 : wr.cell? ⟨g, 2, none⟩ = some (.int .i64 0) := cell_of_row _ _ 2 _ _ _ HRJ.out.box
        obtain ⟨r0, hr0⟩ : ∃ r0, r0 = textC.P B kk := ⟨_, rfl⟩
        rw [← hr0] at HT he
        clear hr0 hm
        by_cases hi0 : i = 0
        · subst hi0
          obtain rfl : l = [] := List.eq_nil_of_length_eq_zero hl
          obtain ⟨va, vn, vc, rfl⟩ := slice_own HO.out
          cases r0 with
          | error x =>
            obtain ⟨c, p⟩ := x
            have HE3 := hid (show res = .error (c, p) from he.symm)
            clear he hl
            go_wp2_with fail
            clear c2
            refine HT.out.mono ?_
            rintro e w1 ⟨vv, k1, rfl, rfl, h0, h1, h2⟩
            have HC0 := hid h0
            have HD1 := hid h1
            have HG1 := hid (HGB.out.trans h2)
            have HG12 := hid h2
            have n1 : ((c : Int) != 0) = true := by simpa using h0
            have n2 : ((c : Int) == 0) = false := by simpa using h0
            have c2 : w1.cell? ⟨g, 2, none⟩ = some (.int .i64 (c : Int)) := cell_of_row _ _ 2 _ _ _ h1.box
            clear h0 h1 h2 c1
            go_upto_region 9 with fail
            clear c2
            have HOW := hid (row_gb HO.out HG12.out HLT.out)
            have HBS := hid (show W.heap.size ≤ w1.heap.size from HG1.out.size)
            go_wp2_with (at_builtin; go_loud (refine wpl_s rfl _ _ rfl W.heap.size (.slice va vn vc) 0 ((([] : List ByteArray)).map Value.string) (Value.string (⟨#[]⟩ : ByteArray)) rfl HOW.out rfl (by omega) HBS.out rfl ?_))
            intro v' w2 ho' hg'
            obtain ⟨va', vn', vc', rfl⟩ := slice_own ho'
            have HD2 := hid (dm_row HD1.out HOW.out HLT.out hg')
            have HG2 := hid (gb_row HOW.out HG1.out hg')
            have HO2 := hid (show w2.ownsRow W.heap.size 9 1 (.slice va' vn' vc') (0 + 1) (((([] : List ByteArray)) ++ [(⟨#[]⟩ : ByteArray)]).map Value.string) from by rw [List.map_append]; exact ho')
            clear ho' hg' HOW HBS
            go_wp2_with fail
            exact ⟨⟨0 + 1, (([] : List ByteArray)) ++ [(⟨#[]⟩ : ByteArray)], .slice va' vn' vc', by omega, by simp [HLL.out], rfl, by go_num, HO2, HG2, hid (Or.inr ⟨c, p, k1, HC0.out, HD2.out, HE3.out⟩)⟩, by simp [intOf]; omega⟩
          | ok y =>
            obtain ⟨x, k1⟩ := y
            have he : dbnd (if okB ltS ([] : List ByteArray).getLast? x = true then dbnd ((textC.ris ltS m (some x)).P B k1) (fun r k2 => .ok (x :: r, k2)) else .error (204, kk)) (fun r k' => .ok (([] : List ByteArray) ++ r, k')) = res := he
            have HEN := hid (show dbnd ((textC.ris ltS (n - (0 + 1)) (([] : List ByteArray) ++ [x]).getLast?).P B k1) (fun r k' => .ok ((([] : List ByteArray) ++ [x]) ++ r, k')) = res from by
              rw [← he, show n - (0 + 1) = m by have := HM.out; omega]
              show _ = dbnd (dbnd ((textC.ris ltS m (some x)).P B k1) (fun r k2 => .ok (x :: r, k2))) (fun r k' => .ok ([] ++ r, k'))
              show dbnd ((textC.ris ltS m (some x)).P B k1) _ = _
              cases (textC.ris ltS m (some x)).P B k1 <;> rfl)
            clear he hl
            go_wp2_with fail
            clear c2
            refine HT.out.mono ?_
            rintro e w1 ⟨vv, rfl, rfl, h1, h2⟩
            have HD1 := hid h1
            have HG1 := hid (HGB.out.trans h2)
            have HG12 := hid h2
            have c2 : w1.cell? ⟨g, 2, none⟩ = some (.int .i64 0) := cell_of_row _ _ 2 _ _ _ h1.box
            clear h1 h2 c1
            go_upto_region 9 with fail
            clear c2
            have HOW := hid (row_gb HO.out HG12.out HLT.out)
            have HBS := hid (show W.heap.size ≤ w1.heap.size from HG1.out.size)
            go_wp2_with (at_builtin; go_loud (refine wpl_s rfl _ _ rfl W.heap.size (.slice va vn vc) 0 ((([] : List ByteArray)).map Value.string) (Value.string x) rfl HOW.out rfl (by omega) HBS.out rfl ?_))
            intro v' w2 ho' hg'
            obtain ⟨va', vn', vc', rfl⟩ := slice_own ho'
            have HD2 := hid (dm_row HD1.out HOW.out HLT.out hg')
            have HG2 := hid (gb_row HOW.out HG1.out hg')
            have HO2 := hid (show w2.ownsRow W.heap.size 9 1 (.slice va' vn' vc') (0 + 1) (((([] : List ByteArray)) ++ [x]).map Value.string) from by rw [List.map_append]; exact ho')
            clear ho' hg' HOW HBS
            go_wp2_with fail
            exact ⟨⟨0 + 1, (([] : List ByteArray)) ++ [x], .slice va' vn' vc', by omega, by simp [HLL.out], rfl, by go_num, HO2, HG2, hid (Or.inl ⟨k1, HD2.out, HEN.out⟩)⟩, by simp [intOf]; omega⟩
        · obtain ⟨i', rfl⟩ : ∃ i', i = i' + 1 := ⟨i - 1, by omega⟩
          obtain ⟨q, hq⟩ : ∃ q, l.getLast? = some q := by
            cases hql : l.getLast? with
            | none => rw [List.getLast?_eq_none_iff] at hql; rw [hql] at hl; cases hl
            | some q => exact ⟨q, rfl⟩
          have hqd : l.getD i' ⟨#[]⟩ = q := by
            rw [List.getLast?_eq_getElem?, hl] at hq
            rw [List.getD_eq_getElem?_getD, show i' = i' + 1 - 1 by omega, hq]; rfl
          rw [hq] at he
          have HQ := hid hq
          obtain ⟨gb, vcap, hve⟩ : ∃ gb vcap, v = .slice (some ⟨gb, 0, none⟩) (i' + 1) vcap ∧ i' + 1 ≤ vcap ∧ vcap ≤ maxLen := by
            rcases HO.out.2 with ⟨_, h0⟩ | ⟨gb, vcap, cur, e, _, _, h3, h4, _⟩
            · omega
            · exact ⟨gb, vcap, e, h3, h4⟩
          obtain ⟨rfl, hvc, hvm⟩ := hve
          have HCE := hid (fun (w' : World) (hh : w'.ownsRow W.heap.size 9 1 (.slice (some ⟨gb, 0, none⟩) (i' + 1) vcap) (i' + 1) (l.map Value.string)) => (show w'.cell? ⟨gb, i', none⟩ = some (Value.string q) from by
            have h5 := hh.cells (g := gb) rfl i' (Value.string q) (by rw [List.getElem?_map, ← hqd, List.getD_eq_getElem?_getD, List.getElem?_eq_getElem (by omega)]; rfl)
            rw [Go.WideShapes.add_plain] at h5
            simpa using h5))
          have e7 : IntKind.i64.wrap (i' : Int) = (i' : Int) := by rw [IntKind.wrap_i64]; omega
          have g3 : (0 : Int) < (i' : Int) + 1 := by omega
          cases r0 with
          | error x =>
            obtain ⟨c, p⟩ := x
            have HE3 := hid (show res = .error (c, p) from he.symm)
            clear he hl hq hqd
            go_wp2_with fail
            clear c2
            refine HT.out.mono ?_
            rintro e w1 ⟨vv, k1, rfl, rfl, h0, h1, h2⟩
            have HC0 := hid h0
            have HD1 := hid h1
            have HG1 := hid (HGB.out.trans h2)
            have HG12 := hid h2
            have n1 : ((c : Int) != 0) = true := by simpa using h0
            have n2 : ((c : Int) == 0) = false := by simpa using h0
            have c2 : w1.cell? ⟨g, 2, none⟩ = some (.int .i64 (c : Int)) := cell_of_row _ _ 2 _ _ _ h1.box
            clear h0 h1 h2 c1
            go_upto_region 9 with fail
            clear c2
            have HOW := hid (row_gb HO.out HG12.out HLT.out)
            have HBS := hid (show W.heap.size ≤ w1.heap.size from HG1.out.size)
            go_wp2_with (at_builtin; go_loud (refine wpl_s rfl _ _ rfl W.heap.size (.slice (some ⟨gb, 0, none⟩) (i' + 1) vcap) (i' + 1) ((l).map Value.string) (Value.string (⟨#[]⟩ : ByteArray)) rfl HOW.out rfl (by omega) HBS.out rfl ?_))
            intro v' w2 ho' hg'
            obtain ⟨va', vn', vc', rfl⟩ := slice_own ho'
            have HD2 := hid (dm_row HD1.out HOW.out HLT.out hg')
            have HG2 := hid (gb_row HOW.out HG1.out hg')
            have HO2 := hid (show w2.ownsRow W.heap.size 9 1 (.slice va' vn' vc') ((i' + 1) + 1) (((l) ++ [(⟨#[]⟩ : ByteArray)]).map Value.string) from by rw [List.map_append]; exact ho')
            clear ho' hg' HOW HBS
            go_wp2_with fail
            exact ⟨⟨(i' + 1) + 1, (l) ++ [(⟨#[]⟩ : ByteArray)], .slice va' vn' vc', by omega, by simp [HLL.out], rfl, by go_num, HO2, HG2, hid (Or.inr ⟨c, p, k1, HC0.out, HD2.out, HE3.out⟩)⟩, by simp [intOf]; omega⟩
          | ok y =>
            obtain ⟨x, k1⟩ := y
            have he : dbnd (if okB ltS (some q) x = true then dbnd ((textC.ris ltS m (some x)).P B k1) (fun r k2 => .ok (x :: r, k2)) else .error (204, kk)) (fun r k' => .ok (l ++ r, k')) = res := he
            by_cases hok : ltS q x = true
            · have HEN := hid (show dbnd ((textC.ris ltS (n - (i' + 1 + 1)) (l ++ [x]).getLast?).P B k1) (fun r k' => .ok ((l ++ [x]) ++ r, k')) = res from by
                rw [← he, show n - (i' + 1 + 1) = m by have := HM.out; omega, if_pos (show okB ltS (some q) x = true from hok), List.getLast?_append]
                show dbnd ((textC.ris ltS m (some x)).P B k1) _ = _
                cases (textC.ris ltS m (some x)).P B k1 with
                | error e => rfl
                | ok y => simp [dbnd])
              obtain ⟨f1, f2⟩ := less_no hok
              clear he hl hok hq hqd
              go_wp2_with fail
              clear c2
              refine HT.out.mono ?_
              rintro e w1 ⟨vv, rfl, rfl, h1, h2⟩
              have HD1 := hid h1
              have HG1 := hid (HGB.out.trans h2)
              have HG12 := hid h2
              have c2 : w1.cell? ⟨g, 2, none⟩ = some (.int .i64 0) := cell_of_row _ _ 2 _ _ _ h1.box
              clear h1 h2 c1
              have y1 := HCE.out w1 (row_gb HO.out HG12.out HLT.out)
              go_upto_region 9 with fail
              clear c2 y1
              have HOW := hid (row_gb HO.out HG12.out HLT.out)
              have HBS := hid (show W.heap.size ≤ w1.heap.size from HG1.out.size)
              go_wp2_with (at_builtin; go_loud (refine wpl_s rfl _ _ rfl W.heap.size (.slice (some ⟨gb, 0, none⟩) (i' + 1) vcap) (i' + 1) ((l).map Value.string) (Value.string x) rfl HOW.out rfl (by omega) HBS.out rfl ?_))
              intro v' w2 ho' hg'
              obtain ⟨va', vn', vc', rfl⟩ := slice_own ho'
              have HD2 := hid (dm_row HD1.out HOW.out HLT.out hg')
              have HG2 := hid (gb_row HOW.out HG1.out hg')
              have HO2 := hid (show w2.ownsRow W.heap.size 9 1 (.slice va' vn' vc') ((i' + 1) + 1) (((l) ++ [x]).map Value.string) from by rw [List.map_append]; exact ho')
              clear ho' hg' HOW HBS
              go_wp2_with fail
              exact ⟨⟨(i' + 1) + 1, (l) ++ [x], .slice va' vn' vc', by omega, by simp [HLL.out], rfl, by go_num, HO2, HG2, hid (Or.inl ⟨k1, HD2.out, HEN.out⟩)⟩, by simp [intOf]; omega⟩
            · have HE3 := hid (show res = .error (204, kk) from by rw [← he, if_neg (show ¬ okB ltS (some q) x = true from hok)]; rfl)
              clear c2
              have c2 : wr.cell? ⟨g, 2, none⟩ = some (.int .i64 0) := cell_of_row _ _ 2 _ _ _ HRJ.out.box
              rcases less_yes hok with f1 | f1
              · clear he hl hok hq hqd
                go_wp2_with fail
                refine HT.out.mono ?_
                rintro e w1 ⟨vv, rfl, rfl, h1, h2⟩
                have HD1 := hid h1
                have HG1 := hid (HGB.out.trans h2)
                have HG12 := hid h2
                have c2 : w1.cell? ⟨g, 2, none⟩ = some (.int .i64 0) := cell_of_row _ _ 2 _ _ _ h1.box
                clear h1 h2 c1
                have y1 := HCE.out w1 (row_gb HO.out HG12.out HLT.out)
                have HFA := hid (dfail_any HD1.out 204 kk)
                go_wp2_with fail
                refine HFA.out.mono ?_
                rintro e w3 ⟨rfl, h1, h2⟩
                have HOO := hid (row_gb HO.out HG12.out HLT.out)
                have HO := hid (row_gb HOO.out h2 HLT.out)
                have HG3 := hid (HG1.out.trans h2)
                have HD3 := hid h1
                clear h1 h2 HFA y1 c2 HD1 HG1 HG12 HOO
                generalize w3 = w1 at *
                have HG1 := HG3
                have HD1 := HD3
                go_upto_region 9 with fail
                have HOW := hid (HO.out)
                have HBS := hid (show W.heap.size ≤ w1.heap.size from HG1.out.size)
                go_wp2_with (at_builtin; go_loud (refine wpl_s rfl _ _ rfl W.heap.size (.slice (some ⟨gb, 0, none⟩) (i' + 1) vcap) (i' + 1) ((l).map Value.string) (Value.string x) rfl HOW.out rfl (by omega) HBS.out rfl ?_))
                intro v' w2 ho' hg'
                obtain ⟨va', vn', vc', rfl⟩ := slice_own ho'
                have HD2 := hid (dm_row HD1.out HOW.out HLT.out hg')
                have HG2 := hid (gb_row HOW.out HG1.out hg')
                have HO2 := hid (show w2.ownsRow W.heap.size 9 1 (.slice va' vn' vc') ((i' + 1) + 1) (((l) ++ [x]).map Value.string) from by rw [List.map_append]; exact ho')
                clear ho' hg' HOW HBS
                go_wp2_with fail
                exact ⟨⟨(i' + 1) + 1, (l) ++ [x], .slice va' vn' vc', by omega, by simp [HLL.out], rfl, by go_num, HO2, HG2, hid (Or.inr ⟨204, kk, k1, by decide, HD2.out, HE3.out⟩)⟩, by simp [intOf]; omega⟩
              · have f2 : Op.bytesLess x.toList x.toList = false := less_irrefl _
                subst f1
                clear he hl hok hq hqd
                go_wp2_with fail
                refine HT.out.mono ?_
                rintro e w1 ⟨vv, rfl, rfl, h1, h2⟩
                have HD1 := hid h1
                have HG1 := hid (HGB.out.trans h2)
                have HG12 := hid h2
                have c2 : w1.cell? ⟨g, 2, none⟩ = some (.int .i64 0) := cell_of_row _ _ 2 _ _ _ h1.box
                clear h1 h2 c1
                have y1 := HCE.out w1 (row_gb HO.out HG12.out HLT.out)
                have HFA := hid (dfail_any HD1.out 204 kk)
                go_wp2_with fail
                refine HFA.out.mono ?_
                rintro e w3 ⟨rfl, h1, h2⟩
                have HOO := hid (row_gb HO.out HG12.out HLT.out)
                have HO := hid (row_gb HOO.out h2 HLT.out)
                have HG3 := hid (HG1.out.trans h2)
                have HD3 := hid h1
                clear h1 h2 HFA y1 c2 HD1 HG1 HG12 HOO
                generalize w3 = w1 at *
                have HG1 := HG3
                have HD1 := HD3
                go_upto_region 9 with fail
                have HOW := hid (HO.out)
                have HBS := hid (show W.heap.size ≤ w1.heap.size from HG1.out.size)
                go_wp2_with (at_builtin; go_loud (refine wpl_s rfl _ _ rfl W.heap.size (.slice (some ⟨gb, 0, none⟩) (i' + 1) vcap) (i' + 1) ((l).map Value.string) (Value.string x) rfl HOW.out rfl (by omega) HBS.out rfl ?_))
                intro v' w2 ho' hg'
                obtain ⟨va', vn', vc', rfl⟩ := slice_own ho'
                have HD2 := hid (dm_row HD1.out HOW.out HLT.out hg')
                have HG2 := hid (gb_row HOW.out HG1.out hg')
                have HO2 := hid (show w2.ownsRow W.heap.size 9 1 (.slice va' vn' vc') ((i' + 1) + 1) (((l) ++ [x]).map Value.string) from by rw [List.map_append]; exact ho')
                clear ho' hg' HOW HBS
                go_wp2_with fail
                exact ⟨⟨(i' + 1) + 1, (l) ++ [x], .slice va' vn' vc', by omega, by simp [HLL.out], rfl, by go_num, HO2, HG2, hid (Or.inr ⟨204, kk, k1, by decide, HD2.out, HE3.out⟩)⟩, by simp [intOf]; omega⟩
      · obtain rfl : i = n := by omega
        have HE3 := hid (show res = .ok (l, kk) from by
          rw [← HE.out, Nat.sub_self]
          show dbnd (.ok ([], kk)) _ = _
          simp [dbnd])
        obtain ⟨va, vn, vc, rfl⟩ := slice_own HO.out
        go_wp2_with fail
        go_ret
        rw [HE3.out]
        exact ⟨_, rfl, (show wr.ownsRow W.heap.size 9 1 _ l.length _ from by rw [hl]; exact HO.out), HRJ.out, HGB.out⟩
    · have HRJ := hid hd
      have HE3 := hid hE
      have HC0 := hid hc0
      have n1 : ((c : Int) != 0) = true := by simpa using hc0
      have n2 : ((c : Int) == 0) = false := by simpa using hc0
      have c2 : wr.cell? ⟨g, 2, none⟩ = some (.int .i64 (c : Int)) := cell_of_row _ _ 2 _ _ _ hd.box
      clear hd hE HS hc0
      obtain ⟨va, vn, vc, rfl⟩ := slice_own HO.out
      by_cases hlt : i < n
      · have g1 : (i : Int) < (n : Int) := by omega
        go_wp2_with fail
        go_ret
        rw [HE3.out]
        exact ⟨_, kk, rfl, ⟨l, by omega, (show wr.ownsRow W.heap.size 9 1 _ l.length _ from by rw [hl]; exact HO.out)⟩, HC0.out, HRJ.out, HGB.out⟩
      · have g1 : ¬ (i : Int) < (n : Int) := by omega
        go_wp2_with fail
        go_ret
        rw [HE3.out]
        exact ⟨_, kk, rfl, ⟨l, by omega, (show wr.ownsRow W.heap.size 9 1 _ l.length _ from by rw [hl]; exact HO.out)⟩, HC0.out, HRJ.out, HGB.out⟩
set_option maxHeartbeats 2000000 in
set_option maxRecDepth 100000 in
theorem dsx_bad {g : Nat} {a : Option Addr} {cap : Nat} {B : List UInt8} {W : World} {k c p : Nat} (h : Dm g a cap B W k c p) (hc : c ≠ 0) :
    Calls Try.prog 31 #[.pointer (some ⟨g, 0, none⟩), .int .i64 0] W fun e w' => ∃ v, e = .returned v ∧ w'.ownsRow W.heap.size 9 1 v 0 [] ∧ Below W.heap.size W w' := by
  have HA := hid (belowA W (.cells #[] 9))
  have HO0 := hid (World.ownsRow_lit (base := W.heap.size) (e := 9) (size := 1) W #[] 0 (Nat.le_refl _) (by unfold maxLen; omega) rfl)
  clear h
  go_enter Try.func31, Try.ntmps31
  go_wp2_with fail
  go_loopw [5, 6] (fun v iv wr => v = .slice (some ⟨W.heap.size, 0, none⟩) 0 0 ∧ iv = .int .i64 0 ∧ Hid (wr = W.alloc (.cells #[] 9))) (fun _ iv _ => 0)
  case atStart => exact ⟨rfl, rfl, hid rfl⟩
  case round =>
    obtain ⟨rfl, rfl, HW⟩ := hrel
    go_wp2_with fail
    go_ret
    rw [HW.out]
    exact ⟨_, rfl, HO0.out, HA.out⟩
end Go.Proofs.Ytnclpdgbjefpmaa.L
