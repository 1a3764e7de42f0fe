import Derived.Test.YtiddnjjaidiohaaGreatDoorH8
import Derived.WideShapes
namespace Go.Proofs.YtiddnjjaidiohaaGreatDoor.L
open Go.RowKit
set_option linter.unusedVariables false
theorem append_src {w : World} {ops : Array Oper} {rest : List Oper} {o : Oper} {a : Act} {Q : Exit → Act → World → Prop} (hgd : o.guard = none) (s x : Operand)
    (ho : o.op = .call { callee := .builtin .append, args := #[s, x], argTypes := #[58, 58] })
    (base : Nat) (v : Value) (zs : List Int) (hs : a.eval s = v) (hown : OwnI w base v zs) (xa : Option Addr) (n xc : Nat) (ys : List Int) (hn : n = ys.length) (hx : a.eval x = .slice xa n xc) (hno : xa = none → xc = 0) (hsrc : RdI w xa ys) (hbound : zs.length + ys.length ≤ 17592186044000) (hbase : base ≤ w.heap.size)
    (h : ∀ v'' w', OwnI w' base v'' (zs ++ ys) → w.grownBy w' v.ownBlock → wpList Tryz.prog ops Q rest (a.put o.dst v'') w') : wpList Tryz.prog ops Q (o :: rest) a w := by
  obtain ⟨i0, hi, hz0, hz1, hz2⟩ := info_parts info3
  subst hn
  cases xa with
  | none =>
    have hl : ys.length = 0 := by
      rcases hsrc with h | ⟨b, off, e, _⟩
      · exact h
      · cases e
    have he : ys = [] := List.length_eq_zero_iff.1 hl
    subst he
    rw [hno rfl] at hx
    refine wpList_append_own_none hgd s x 58 ho base 3 i0 1 Tryz.underlying58 hi v _ _ hs hown hx ?_
    exact h v w (by rw [List.append_nil]; exact hown) ⟨rfl, rfl, rfl, Nat.le_refl _, fun _ _ _ => rfl⟩
  | some ad =>
    refine wpList_append_own w hgd s x 58 ho base 3 i0 (.int .i64 0) 1 8 Tryz.underlying58 hi hz0 hz1 hz2 rfl (by decide) v _ _ hs hown ad ys.length xc (ys.map (Value.int .i64)) hx (by simp) ?_ (by intro u hu; simp at hu; obtain ⟨z, _, rfl⟩ := hu; rfl) (by unfold maxLen; omega) (by omega) hbase ?_
    · intro j u hu
      rw [List.getElem?_map] at hu
      by_cases hj : j < ys.length
      · rw [List.getElem?_eq_getElem hj] at hu
        cases hu
        rcases hsrc with h0 | ⟨b, off, e, hb, hc⟩
        · omega
        · cases e
          have := hc j hj
          rw [List.getD_eq_getElem?_getD, List.getElem?_eq_getElem hj] at this
          rw [Go.WideShapes.add_plain]
          exact this
      · rw [List.getElem?_eq_none (by omega)] at hu
        cases hu
    · intro v'' w' ho' hg _
      refine h v'' w' ?_ hg
      unfold OwnI
      rw [List.length_append, List.map_append]
      exact ho'
theorem own_rdI {w : World} {base : Nat} {a : Option Addr} {n cap : Nat} {zs : List Int} (h : OwnI w base (.slice a n cap) zs) : n = zs.length ∧ RdI w a zs ∧ (a = none → cap = 0) := by
  rcases h.2 with ⟨e, n0⟩ | ⟨g, cap', cur, e, hb, hg, h3, h4, h5, h6⟩
  · injection e with e1 e2 e3
    exact ⟨by omega, .inl n0, fun _ => e3⟩
  · obtain ⟨h1, h2⟩ := own_rd h 0 (Nat.zero_le _)
    injection e with e1 e2 e3
    subst e1
    refine ⟨h1, ?_, fun e => by cases e⟩
    rcases h2 with h2 | ⟨g', e', _, _, _, _, r⟩
    · exact .inl h2
    · cases e'
      exact r
theorem own_new0 (w : World) (base : Nat) (hb : base ≤ w.heap.size) : OwnI (w.alloc (.cells #[] 3)) base (.slice (some ⟨w.heap.size, 0, none⟩) 0 0) [] := World.ownsRow_made w #[] 0 hb (Nat.zero_le _) rfl
/-- What form answers. -/
def FrmR (T : List Pt) (c a : Int) : Prop :=
  (T.length = 0 ∧ c = 130 ∧ a = 0) ∨ (1000 < T.length ∧ c = 130 ∧ a = 1000) ∨
  (1 ≤ T.length ∧ T.length ≤ 1000 ∧ ((∃ i : Nat, a = i ∧ Bar T i ∧ c = 130) ∨ (Ok0 T ∧ Lst T ∧ c = 130 ∧ a = ((T.length - 1 : Nat) : Int)) ∨ (Ok0 T ∧ ¬ Lst T ∧ c = 0 ∧ a = 0)))
theorem okD_iff {T : List Pt} {k : Nat} : OkA T k ↔ PartD T (pt T k) (fre T k) := ⟨fun h => ⟨h.many, h.kids, h.tab⟩, fun h => ⟨h.1, h.2.1, h.2.2⟩⟩
set_option maxHeartbeats 16000000 in
set_option maxRecDepth 100000 in
theorem rform_any (a : Option Addr) (T : List Pt) (cap : Nat) (w : World) (hT : PL w a T) (hG : GdT T) :
    Calls Tryz.prog 28 #[.agg #[.slice a T.length cap]] w fun e w' => ∃ c i : Int, e = .returned (.tuple #[.int .i64 c, .int .i64 i]) ∧ FrmR T c i ∧ Below w.heap.size w w' := by
  obtain ⟨i3, hi, hz0, hz1i, hz2⟩ := info_parts info3
  obtain ⟨L, hLe⟩ : ∃ L, L = T.length := ⟨_, rfl⟩
  have HT := hid hT
  have HL := hid hLe
  have HG := hid hG
  have HPA := hid rpart_any
  have HCO := hid rcond_any
  have hLm := hG.1
  rw [← hLe] at hLm ⊢
  have HX0 := hid (Boxed.new w 26 (.slice a L cap))
  have HB0 := hid (belowA w (.cells #[.slice a L cap] 26))
  have HS0 := hid (show (w.alloc (.cells #[.slice a L cap] 26)).heap.size = w.heap.size + 1 by simp)
  clear hT hLe hG
  by_cases h0 : L = 0
  · have e0 : ((L : Int) == 0) = true := by simp [h0]
    have HH := hid h0
    clear h0
    go_enter Tryz.func28, Tryz.ntmps28
    go_wp2_with fail
    (try simp only [Exit.inBlock, Exit.then])
    refine bodyPost_ret (results_tmp2 rfl _ _ _) rfl ⟨130, 0, rfl, .inl ⟨by rw [← HL.out]; exact HH.out, rfl, rfl⟩, HB0.out⟩
  · have e0 : ((L : Int) == 0) = false := by simp; omega
    by_cases h1 : 1000 < L
    · have e1 : decide ((1000 : Int) < (L : Int)) = true := by simp; omega
      go_enter Tryz.func28, Tryz.ntmps28
      go_wp2_with fail
      (try simp only [Exit.inBlock, Exit.then])
      refine bodyPost_ret (results_tmp2 rfl _ _ _) rfl ⟨130, 1000, rfl, .inr (.inl ⟨by rw [← HL.out]; exact h1, rfl, rfl⟩), HB0.out⟩
    · have e1 : decide ((1000 : Int) < (L : Int)) = false := by simp; omega
      go_enter Tryz.func28, Tryz.ntmps28
      go_wp2_with fail
      have HTX := hid (HT.out.low HB0.out)
      generalize hXe : w.alloc (.cells #[.slice a L cap] 26) = X at *
      clear hXe
      go_loopw [4, 5] (fun v i wr => ∃ k : Nat, k ≤ L ∧ i = .int .i64 k ∧ Hid (Below X.heap.size X wr) ∧ Hid (OwnI wr X.heap.size v (fre T k)) ∧ Hid (∀ j, j < k → OkA T j)) (fun _ i _ => L - (intOf i).toNat)
      case atStart => exact ⟨0, Nat.zero_le _, rfl, hid (Below.refl _ _), hid (World.ownsRow_nil _ _ _ _), hid (fun j hj => by omega)⟩
      case round =>
        obtain ⟨k, hk, rfl, HB, OW, HE⟩ := hrel
        obtain ⟨va, vc, rfl⟩ := own_form OW.out
        have hfl := fre_len T k
        obtain ⟨m, hm⟩ : ∃ m, m = (fre T k).length := ⟨_, rfl⟩
        rw [← hm] at OW hfl ⊢
        have HM := hid hm
        clear hm
        have xt := (show Boxed wr w.heap.size 26 (.slice a L cap) from (HB.out.block _ HX0.out.lt).trans HX0.out).cell
        by_cases hlt : k < L
        · have HPP := HPA.out a T cap k va (fre T k) vc wr (HTX.out.low HB.out) (by rw [← HL.out]; exact hlt) (by rw [← HL.out]; omega) HG.out (own_rdI OW.out).2.1 (by rw [← HM.out]; omega) (fun x hx => by have := fre_mem T k x hx; have := HL.out; omega)
          rw [← HL.out, ← HM.out] at HPP
          have HP2 := hid HPP
          clear HPP
          have g1 : (k : Int) < (L : Int) := by omega
          have g2 : (0 : Int) ≤ (k : Int) := by omega
          go_upto_region 10 with (go_at_call 50; refine HP2.out.mono ?_; rintro e w1 ⟨bb, rfl, hbb, l1⟩; have L1 := hid l1; have HBB := hid hbb; clear l1 hbb)
          cases bb
          · go_wp2_with fail
            (try simp only [Exit.inBlock, Exit.then])
            refine bodyPost_ret (results_tmp2 rfl _ _ _) rfl ⟨130, k, rfl, .inr (.inr ⟨by rw [← HL.out]; omega, by rw [← HL.out]; omega, .inl ⟨k, rfl, ⟨by rw [← HL.out]; exact hlt, fun ho => ?_, HE.out⟩, rfl⟩⟩), HB0.out.trans ((HB.out.trans (L1.out.mono HB.out.size)).mono HB0.out.size)⟩
            have := HBB.out.2 (okD_iff.1 ho)
            cases this
          · have hok : OkA T k := okD_iff.2 (HBB.out.1 rfl)
            have BX1 := hid (HB.out.trans (L1.out.mono HB.out.size))
            have O1 := hid (own_low OW.out L1.out)
            have r2 := HTX.out.low BX1.out
            have hT1 := r2
            rcases r2 with h0 | ⟨b2, o2, rfl, hb2, hc2⟩
            · have := HL.out; omega
            obtain ⟨ka, kc, _, _, _, q3, _⟩ := hc2 k (by rw [← HL.out]; exact hlt)
            have hmany := hok.many
            obtain ⟨n, hn⟩ : ∃ n, n = (pt T k).kids.length := ⟨_, rfl⟩
            rw [← hn, ← HM.out] at hmany
            rw [← hn] at q3
            obtain ⟨h, hh⟩ : ∃ h, m = h + n := ⟨m - n, by omega⟩
            have hmn : (m : Int) - (n : Int) = (h : Int) := by omega
            have HRN := head_run (h := h) O1.out HM.out (by omega)
            have HFR := hid (show fre T (k + 1) = (fre T k).take h ++ [(k : Int)] by
              show (fre T k).take ((fre T k).length - (pt T k).kids.length) ++ _ = _
              rw [← hn, ← HM.out, show m - n = h by omega])
            have HHM := hid (show h ≤ m by omega)
            have hh1 : h ≤ 1000 := by omega
            have HOKK := hid hok
            clear xt hok hmany hn hc2 hT1
            have xt := (show Boxed (w1.alloc (.cells #[] 3)) w.heap.size 26 (.slice (some ⟨b2, o2, none⟩) L cap) from ((BX1.out.alloc BX1.out.size _).block _ HX0.out.lt).trans HX0.out).cell
            have bV := belowA w1 (.cells #[] 3)
            replace q3 := (bV.cell (p := ⟨b2, o2 + k * 4 + 3, none⟩) hb2).trans q3
            have BV := hid (BX1.out.alloc BX1.out.size (.cells #[] 3))
            have O2 := hid (own_low O1.out bV)
            have N0 := hid (own_new0 w1 X.heap.size BX1.out.size)
            clear bV hb2 hh
            have HC0 := hid (show h = ((fre T k).take h).length by rw [List.length_take, ← HM.out]; have := HHM.out; omega)
            have RS := hid (own_rdI (own_take (show OwnI (w1.alloc (.cells #[] 3)) X.heap.size (.slice va (fre T k).length vc) (fre T k) by rw [← HM.out]; exact O2.out) h (by rw [← HM.out]; exact HHM.out))).2
            have HBD := hid (show ([] : List Int).length + ((fre T k).take h).length ≤ 17592186044000 by rw [← HC0.out]; simp; omega)
            have HSZ := hid (show X.heap.size ≤ (w1.alloc (.cells #[] 3)).heap.size from BV.out.size)
            have hown : ∀ j, (Value.slice (some ⟨w1.heap.size, 0, none⟩) 0 0).ownBlock = some j → X.heap.size ≤ j := by
              intro j e
              simp [Value.ownBlock] at e
              have := BX1.out.size
              omega
            have HOB := hid hown
            clear hown
            go_wp2_with (at_builtin; refine append_src rfl _ _ rfl X.heap.size _ [] rfl N0.out va h vc ((fre T k).take h) HC0.out rfl RS.out.2 RS.out.1 HBD.out HSZ.out ?_)
            intro v2 w3 o3 g3
            (try rw [List.nil_append] at o3)
            have B3 := hid (show Below X.heap.size X w3 from BV.out.grown g3 HSZ.out HOB.out)
            have O3 := hid o3
            obtain ⟨va3, vc3, rfl⟩ := own_form o3
            rw [← HC0.out]
            have own3 := hid (own_block o3)
            have O4 : w3.ownsRow X.heap.size 3 1 (.slice va3 h vc3) h (((fre T k).take h).map (Value.int .i64)) := by
              have := o3
              unfold OwnI at this
              rw [← HC0.out] at this
              exact this
            have O5 := hid O4
            rw [← HC0.out] at own3
            clear o3 g3 O4 O2 N0 O1 RS HRN xt q3
            go_wp2_with (at_builtin; refine wpList_append_own _ rfl _ _ 58 rfl X.heap.size 3 i3 (.int .i64 0) 1 8 Tryz.underlying58 hi hz0 hz1i hz2 rfl (by decide) _ _ _ rfl (O5.out.alloc _) ⟨w3.heap.size, 0, none⟩ 1 1 [.int .i64 k] rfl rfl ?c1 ?c2 ?c3 ?c4 ?c5 ?_)
            case c1 => exact cell_one_new _ _ _
            case c2 => first | rfl | (intro x hx; simp at hx; subst hx; rfl)
            case c3 => unfold maxLen; omega
            case c4 => omega
            case c5 => have := B3.out.size; simp; omega
            intro v4 w4 hown' hgrow _
            have B4 := hid (show Below X.heap.size X w4 from (B3.out.alloc B3.out.size _).grown hgrow (by have := B3.out.size; simp; omega) (fun j e => (own3.out j e).1))
            have O6 := hid (show OwnI w4 X.heap.size v4 (fre T (k + 1)) by
              rw [HFR.out]
              unfold OwnI
              rw [List.map_append, List.length_append, ← HC0.out, List.map_take]
              exact hown')
            clear hown' hgrow
            go_wp2_with fail
            refine ⟨⟨k + 1, by omega, by go_num, B4, O6, hid (fun j hj => ?_)⟩, by simp [intOf]; omega⟩
            by_cases e : j = k
            · rw [e]; exact HOKK.out
            · exact HE.out j (by omega)
        · obtain rfl : k = L := by omega
          have HOK0 := hid (show Ok0 T from fun j hj => HE.out j (by rw [HL.out]; exact hj))
          have hll : ((k : Int) - 1) = ((k - 1 : Nat) : Int) := by omega
          have r2 := HTX.out.low HB.out
          rcases r2 with h0 | ⟨b2, o2, rfl, hb2, hc2⟩
          · have := HL.out; omega
          obtain ⟨ka, kc, q0, _⟩ := hc2 (k - 1) (by rw [← HL.out]; omega)
          clear hc2
          obtain ⟨kk, hkk⟩ : ∃ kk, kk = (pt T (k - 1)).kind := ⟨_, rfl⟩
          rw [← hkk] at q0
          have HKK := hid hkk
          clear hkk
          have g1 : ((k - 1 : Nat) : Int) < (k : Int) := by omega
          have g2 : (0 : Int) ≤ ((k - 1 : Nat) : Int) := by omega
          generalize hkm : k - 1 = km at *
          have HKM := hid hkm
          clear hkm
          have hB := HB0.out.trans (HB.out.mono HB0.out.size)
          have HBB := hid hB
          clear hB
          cases hc : decide (1 ≤ kk ∧ kk ≤ 10)
          · have HCC := hid hc
            go_wp2_with (go_at_call 51; refine (HCO.out _ _).mono ?_; rw [HCC.out]; rintro e w1 ⟨rfl, hww⟩; have hw2 := hww.symm; clear hww; subst hw2)
            (try simp only [Exit.inBlock, Exit.then])
            refine bodyPost_ret (results_tmp2 rfl _ _ _) rfl ⟨130, km, rfl, .inr (.inr ⟨by rw [← HL.out]; omega, by rw [← HL.out]; omega, .inr (.inl ⟨HOK0.out, .inl (fun h => ?_), rfl, by rw [← HL.out, HKM.out]⟩)⟩), HBB.out⟩
            rw [← HL.out, HKM.out, ← HKK.out] at h
            have := HCC.out
            simp at this
            omega
          · have HCC := hid hc
            by_cases h1m : 1 < m
            · have d1 : decide ((1 : Int) < (m : Int)) = true := by simp; omega
              go_wp2_with (go_at_call 51; refine (HCO.out _ _).mono ?_; rw [HCC.out]; rintro e w1 ⟨rfl, hww⟩; have hw2 := hww.symm; clear hww; subst hw2)
              (try simp only [Exit.inBlock, Exit.then])
              refine bodyPost_ret (results_tmp2 rfl _ _ _) rfl ⟨130, km, rfl, .inr (.inr ⟨by rw [← HL.out]; omega, by rw [← HL.out]; omega, .inr (.inl ⟨HOK0.out, .inr ?_, rfl, by rw [← HL.out, HKM.out]⟩)⟩), HBB.out⟩
              rw [← HL.out, ← HM.out]
              exact h1m
            · have d1 : decide ((1 : Int) < (m : Int)) = false := by simp; omega
              go_wp2_with (go_at_call 51; refine (HCO.out _ _).mono ?_; rw [HCC.out]; rintro e w1 ⟨rfl, hww⟩; have hw2 := hww.symm; clear hww; subst hw2)
              (try simp only [Exit.inBlock, Exit.then])
              refine bodyPost_ret (results_tmp2 rfl _ _ _) rfl ⟨0, 0, rfl, .inr (.inr ⟨by rw [← HL.out]; omega, by rw [← HL.out]; omega, .inr (.inr ⟨HOK0.out, ?_, rfl, rfl⟩)⟩), HBB.out⟩
              rintro (h | h)
              · rw [← HL.out, HKM.out, ← HKK.out] at h
                have := HCC.out
                simp at this
                exact h this
              · rw [← HL.out, ← HM.out] at h
                exact h1m h
end Go.Proofs.YtiddnjjaidiohaaGreatDoor.L
