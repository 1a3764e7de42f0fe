import Derived.Test.YtppblibcbjpfnaaDoorMtc
import Derived.Test.YtppblibcbjpfnaaDoorTpp
namespace Go.Proofs.YtppblibcbjpfnaaDoor.L
open Go.RowKit
set_option linter.unusedVariables false
/-- The fault of a toleration. -/
def oE (o : To) : Int := if (eqS o.2.1 sEq || eqS o.2.1 sEx) = false then 46 else if (keyB o.1 || evB o) = false then 41 else if (valB o.2.2.1 && (!eqS o.2.1 sEx || emB o.2.2.1)) = false then 42 else if (emB o.2.2.2 || effB o.2.2.2) = false then 40 else 0
theorem four_low {W W' : World} {b : Nat} {x y z u : Value} (h : W.cell? ⟨b, 0, none⟩ = some x ∧ W.cell? ⟨b, 1, none⟩ = some y ∧ W.cell? ⟨b, 2, none⟩ = some z ∧ W.cell? ⟨b, 3, none⟩ = some u) (hb : Below W.heap.size W W') (hz : b < W.heap.size) : W'.cell? ⟨b, 0, none⟩ = some x ∧ W'.cell? ⟨b, 1, none⟩ = some y ∧ W'.cell? ⟨b, 2, none⟩ = some z ∧ W'.cell? ⟨b, 3, none⟩ = some u :=
  ⟨(hb.cell (p := ⟨b, 0, none⟩) hz).trans h.1, (hb.cell (p := ⟨b, 1, none⟩) hz).trans h.2.1, (hb.cell (p := ⟨b, 2, none⟩) hz).trans h.2.2.1, (hb.cell (p := ⟨b, 3, none⟩) hz).trans h.2.2.2⟩
theorem four_alloc (w : World) (x y z u : Value) (t : TypeId) : (w.alloc (.cells #[x, y, z, u] t)).cell? ⟨w.heap.size, 0, none⟩ = some x ∧ (w.alloc (.cells #[x, y, z, u] t)).cell? ⟨w.heap.size, 1, none⟩ = some y ∧ (w.alloc (.cells #[x, y, z, u] t)).cell? ⟨w.heap.size, 2, none⟩ = some z ∧ (w.alloc (.cells #[x, y, z, u] t)).cell? ⟨w.heap.size, 3, none⟩ = some u := by
  have h : (w.alloc (.cells #[x, y, z, u] t)).heap[w.heap.size]? = some (.cells #[x, y, z, u] t) := by
    show (w.heap.push _)[w.heap.size]? = _
    simp
  refine ⟨?_, ?_, ?_, ?_⟩ <;> (unfold World.cell?; rw [h]; rfl)
theorem eq_not_ex {s : ByteArray} (h : eqS s sEq = true) : eqS s sEx = false := by
  rw [eqS_iff.1 h]
  decide +kernel
set_option maxHeartbeats 8000000 in
theorem ctol_any (o : To) (w : World) (hk : o.1.size ≤ maxLen) (hv : o.2.2.1.size ≤ maxLen) : Calls Tryd.prog 13 #[ov o] w fun e w' => e = .returned (.int .i64 (oE o)) ∧ Below w.heap.size w w' := by
  have HK := hid (fun W => key_any o.1 W hk)
  have HV := hid (fun W => value_any o.2.2.1 W hv)
  have HF := hid (fun W => effect_any o.2.2.2 W)
  have HE := hid (fun W => every_any o W)
  have HO := hid (show oE o = if (eqS o.2.1 sEq || eqS o.2.1 sEx) = false then 46 else if (keyB o.1 || evB o) = false then 41 else if (valB o.2.2.1 && (!eqS o.2.1 sEx || emB o.2.2.1)) = false then 42 else if (emB o.2.2.2 || effB o.2.2.2) = false then 40 else 0 from rfl)
  have HX := hid (fun h => eq_not_ex (s := o.2.1) h)
  generalize oE o = er at *
  generalize evB o = ev at *
  obtain ⟨k, p, v, f⟩ := o
  simp only [ov] at *
  generalize keyB k = kb at *
  generalize valB v = vb at *
  generalize effB f = fb at *
  have HC := hid (four_alloc w (.string k) (.string p) (.string v) (.string f) 25)
  have HW := hid (belowA w (.cells #[.string k, .string p, .string v, .string f] 25))
  have hz : w.heap.size < (w.alloc (.cells #[.string k, .string p, .string v, .string f] 25)).heap.size := by simp
  unfold eqS emB at HO
  unfold eqS at HX
  rw [lEq, lEx] at HO HX
  cases e1 : (p.toList == [69, 113, 117, 97, 108])
  · cases e2 : (p.toList == [69, 120, 105, 115, 116, 115])
    · rw [e1, e2] at HO
      have HN := hid HO.out
      simp at HN
      clear HO HX
      go_enter Tryd.func13, Tryd.ntmps13
      go_wp2_with fail
      go_ret
      exact ⟨by rw [HN.out]; rfl, HW.out⟩
    · rw [e1, e2] at HO
      cases kb
      · cases ev
        · have z0 := True.intro
          have HN := hid HO.out
          simp at HN
          clear HO HX
          go_enter Tryd.func13, Tryd.ntmps13
          go_wp2_with fail
          refine (HK.out _).mono ?_
          rintro e w1 ⟨rfl, hb⟩
          have B1 := hid (HW.out.trans (hb.mono HW.out.size))
          obtain ⟨c0, c1, c2, c3⟩ := four_low HC.out hb hz
          have C1 := hid (⟨c0, c1, c2, c3⟩ : _ ∧ _ ∧ _ ∧ _)
          have z1 : w.heap.size < w1.heap.size := Nat.lt_of_lt_of_le hz hb.size
          clear hb
          go_wp2_with fail
          refine (HE.out _).mono ?_
          rintro e w2 ⟨rfl, hb⟩
          have B2 := hid (B1.out.trans (hb.mono B1.out.size))
          clear c0 c1 c2 c3
          obtain ⟨c0, c1, c2, c3⟩ := four_low C1.out hb z1
          clear hb
          go_wp2_with fail
          go_ret
          exact ⟨by rw [HN.out]; rfl, B2.out⟩
        · have z0 := True.intro
          cases vb
          · have z0 := True.intro
            have HN := hid HO.out
            simp at HN
            clear HO HX
            go_enter Tryd.func13, Tryd.ntmps13
            go_wp2_with fail
            refine (HK.out _).mono ?_
            rintro e w1 ⟨rfl, hb⟩
            have B1 := hid (HW.out.trans (hb.mono HW.out.size))
            obtain ⟨c0, c1, c2, c3⟩ := four_low HC.out hb hz
            have C1 := hid (⟨c0, c1, c2, c3⟩ : _ ∧ _ ∧ _ ∧ _)
            have z1 : w.heap.size < w1.heap.size := Nat.lt_of_lt_of_le hz hb.size
            clear hb
            go_wp2_with fail
            refine (HE.out _).mono ?_
            rintro e w2 ⟨rfl, hb⟩
            have B2 := hid (B1.out.trans (hb.mono B1.out.size))
            clear c0 c1 c2 c3
            obtain ⟨c0, c1, c2, c3⟩ := four_low C1.out hb z1
            clear hb
            go_wp2_with fail
            refine (HV.out _).mono ?_
            rintro e w3 ⟨rfl, hww⟩; subst hww
            go_wp2_with fail
            go_ret
            exact ⟨by rw [HN.out]; rfl, B2.out⟩
          · cases e6 : v.toList.isEmpty
            · rw [e6] at HO
              have HN := hid HO.out
              simp at HN
              clear HO HX
              go_enter Tryd.func13, Tryd.ntmps13
              go_wp2_with fail
              refine (HK.out _).mono ?_
              rintro e w1 ⟨rfl, hb⟩
              have B1 := hid (HW.out.trans (hb.mono HW.out.size))
              obtain ⟨c0, c1, c2, c3⟩ := four_low HC.out hb hz
              have C1 := hid (⟨c0, c1, c2, c3⟩ : _ ∧ _ ∧ _ ∧ _)
              have z1 : w.heap.size < w1.heap.size := Nat.lt_of_lt_of_le hz hb.size
              clear hb
              go_wp2_with fail
              refine (HE.out _).mono ?_
              rintro e w2 ⟨rfl, hb⟩
              have B2 := hid (B1.out.trans (hb.mono B1.out.size))
              clear c0 c1 c2 c3
              obtain ⟨c0, c1, c2, c3⟩ := four_low C1.out hb z1
              clear hb
              go_wp2_with fail
              refine (HV.out _).mono ?_
              rintro e w3 ⟨rfl, hww⟩; subst hww
              go_wp2_with fail
              go_ret
              exact ⟨by rw [HN.out]; rfl, B2.out⟩
            · rw [e6] at HO
              cases e7 : f.toList.isEmpty
              · rw [e7] at HO
                cases fb
                · have z0 := True.intro
                  have HN := hid HO.out
                  simp at HN
                  clear HO HX
                  go_enter Tryd.func13, Tryd.ntmps13
                  go_wp2_with fail
                  refine (HK.out _).mono ?_
                  rintro e w1 ⟨rfl, hb⟩
                  have B1 := hid (HW.out.trans (hb.mono HW.out.size))
                  obtain ⟨c0, c1, c2, c3⟩ := four_low HC.out hb hz
                  have C1 := hid (⟨c0, c1, c2, c3⟩ : _ ∧ _ ∧ _ ∧ _)
                  have z1 : w.heap.size < w1.heap.size := Nat.lt_of_lt_of_le hz hb.size
                  clear hb
                  go_wp2_with fail
                  refine (HE.out _).mono ?_
                  rintro e w2 ⟨rfl, hb⟩
                  have B2 := hid (B1.out.trans (hb.mono B1.out.size))
                  clear c0 c1 c2 c3
                  obtain ⟨c0, c1, c2, c3⟩ := four_low C1.out hb z1
                  clear hb
                  go_wp2_with fail
                  refine (HV.out _).mono ?_
                  rintro e w3 ⟨rfl, hww⟩; subst hww
                  go_wp2_with fail
                  refine (HF.out _).mono ?_
                  rintro e w4 ⟨rfl, hww⟩; subst hww
                  go_wp2_with fail
                  go_ret
                  exact ⟨by rw [HN.out]; rfl, B2.out⟩
                · have z0 := True.intro
                  have HN := hid HO.out
                  simp at HN
                  clear HO HX
                  go_enter Tryd.func13, Tryd.ntmps13
                  go_wp2_with fail
                  refine (HK.out _).mono ?_
                  rintro e w1 ⟨rfl, hb⟩
                  have B1 := hid (HW.out.trans (hb.mono HW.out.size))
                  obtain ⟨c0, c1, c2, c3⟩ := four_low HC.out hb hz
                  have C1 := hid (⟨c0, c1, c2, c3⟩ : _ ∧ _ ∧ _ ∧ _)
                  have z1 : w.heap.size < w1.heap.size := Nat.lt_of_lt_of_le hz hb.size
                  clear hb
                  go_wp2_with fail
                  refine (HE.out _).mono ?_
                  rintro e w2 ⟨rfl, hb⟩
                  have B2 := hid (B1.out.trans (hb.mono B1.out.size))
                  clear c0 c1 c2 c3
                  obtain ⟨c0, c1, c2, c3⟩ := four_low C1.out hb z1
                  clear hb
                  go_wp2_with fail
                  refine (HV.out _).mono ?_
                  rintro e w3 ⟨rfl, hww⟩; subst hww
                  go_wp2_with fail
                  refine (HF.out _).mono ?_
                  rintro e w4 ⟨rfl, hww⟩; subst hww
                  go_wp2_with fail
                  go_ret
                  exact ⟨by rw [HN.out]; rfl, B2.out⟩
              · rw [e7] at HO
                have HN := hid HO.out
                simp at HN
                clear HO HX
                go_enter Tryd.func13, Tryd.ntmps13
                go_wp2_with fail
                refine (HK.out _).mono ?_
                rintro e w1 ⟨rfl, hb⟩
                have B1 := hid (HW.out.trans (hb.mono HW.out.size))
                obtain ⟨c0, c1, c2, c3⟩ := four_low HC.out hb hz
                have C1 := hid (⟨c0, c1, c2, c3⟩ : _ ∧ _ ∧ _ ∧ _)
                have z1 : w.heap.size < w1.heap.size := Nat.lt_of_lt_of_le hz hb.size
                clear hb
                go_wp2_with fail
                refine (HE.out _).mono ?_
                rintro e w2 ⟨rfl, hb⟩
                have B2 := hid (B1.out.trans (hb.mono B1.out.size))
                clear c0 c1 c2 c3
                obtain ⟨c0, c1, c2, c3⟩ := four_low C1.out hb z1
                clear hb
                go_wp2_with fail
                refine (HV.out _).mono ?_
                rintro e w3 ⟨rfl, hww⟩; subst hww
                go_wp2_with fail
                go_ret
                exact ⟨by rw [HN.out]; rfl, B2.out⟩
      · have z0 := True.intro
        cases vb
        · have z0 := True.intro
          have HN := hid HO.out
          simp at HN
          clear HO HX
          go_enter Tryd.func13, Tryd.ntmps13
          go_wp2_with fail
          refine (HK.out _).mono ?_
          rintro e w1 ⟨rfl, hb⟩
          have B1 := hid (HW.out.trans (hb.mono HW.out.size))
          obtain ⟨c0, c1, c2, c3⟩ := four_low HC.out hb hz
          have C1 := hid (⟨c0, c1, c2, c3⟩ : _ ∧ _ ∧ _ ∧ _)
          have z1 : w.heap.size < w1.heap.size := Nat.lt_of_lt_of_le hz hb.size
          clear hb
          go_wp2_with fail
          refine (HV.out _).mono ?_
          rintro e w3 ⟨rfl, hww⟩; subst hww
          go_wp2_with fail
          go_ret
          exact ⟨by rw [HN.out]; rfl, B1.out⟩
        · cases e6 : v.toList.isEmpty
          · rw [e6] at HO
            have HN := hid HO.out
            simp at HN
            clear HO HX
            go_enter Tryd.func13, Tryd.ntmps13
            go_wp2_with fail
            refine (HK.out _).mono ?_
            rintro e w1 ⟨rfl, hb⟩
            have B1 := hid (HW.out.trans (hb.mono HW.out.size))
            obtain ⟨c0, c1, c2, c3⟩ := four_low HC.out hb hz
            have C1 := hid (⟨c0, c1, c2, c3⟩ : _ ∧ _ ∧ _ ∧ _)
            have z1 : w.heap.size < w1.heap.size := Nat.lt_of_lt_of_le hz hb.size
            clear hb
            go_wp2_with fail
            refine (HV.out _).mono ?_
            rintro e w3 ⟨rfl, hww⟩; subst hww
            go_wp2_with fail
            go_ret
            exact ⟨by rw [HN.out]; rfl, B1.out⟩
          · rw [e6] at HO
            cases e7 : f.toList.isEmpty
            · rw [e7] at HO
              cases fb
              · have z0 := True.intro
                have HN := hid HO.out
                simp at HN
                clear HO HX
                go_enter Tryd.func13, Tryd.ntmps13
                go_wp2_with fail
                refine (HK.out _).mono ?_
                rintro e w1 ⟨rfl, hb⟩
                have B1 := hid (HW.out.trans (hb.mono HW.out.size))
                obtain ⟨c0, c1, c2, c3⟩ := four_low HC.out hb hz
                have C1 := hid (⟨c0, c1, c2, c3⟩ : _ ∧ _ ∧ _ ∧ _)
                have z1 : w.heap.size < w1.heap.size := Nat.lt_of_lt_of_le hz hb.size
                clear hb
                go_wp2_with fail
                refine (HV.out _).mono ?_
                rintro e w3 ⟨rfl, hww⟩; subst hww
                go_wp2_with fail
                refine (HF.out _).mono ?_
                rintro e w4 ⟨rfl, hww⟩; subst hww
                go_wp2_with fail
                go_ret
                exact ⟨by rw [HN.out]; rfl, B1.out⟩
              · have z0 := True.intro
                have HN := hid HO.out
                simp at HN
                clear HO HX
                go_enter Tryd.func13, Tryd.ntmps13
                go_wp2_with fail
                refine (HK.out _).mono ?_
                rintro e w1 ⟨rfl, hb⟩
                have B1 := hid (HW.out.trans (hb.mono HW.out.size))
                obtain ⟨c0, c1, c2, c3⟩ := four_low HC.out hb hz
                have C1 := hid (⟨c0, c1, c2, c3⟩ : _ ∧ _ ∧ _ ∧ _)
                have z1 : w.heap.size < w1.heap.size := Nat.lt_of_lt_of_le hz hb.size
                clear hb
                go_wp2_with fail
                refine (HV.out _).mono ?_
                rintro e w3 ⟨rfl, hww⟩; subst hww
                go_wp2_with fail
                refine (HF.out _).mono ?_
                rintro e w4 ⟨rfl, hww⟩; subst hww
                go_wp2_with fail
                go_ret
                exact ⟨by rw [HN.out]; rfl, B1.out⟩
            · rw [e7] at HO
              have HN := hid HO.out
              simp at HN
              clear HO HX
              go_enter Tryd.func13, Tryd.ntmps13
              go_wp2_with fail
              refine (HK.out _).mono ?_
              rintro e w1 ⟨rfl, hb⟩
              have B1 := hid (HW.out.trans (hb.mono HW.out.size))
              obtain ⟨c0, c1, c2, c3⟩ := four_low HC.out hb hz
              have C1 := hid (⟨c0, c1, c2, c3⟩ : _ ∧ _ ∧ _ ∧ _)
              have z1 : w.heap.size < w1.heap.size := Nat.lt_of_lt_of_le hz hb.size
              clear hb
              go_wp2_with fail
              refine (HV.out _).mono ?_
              rintro e w3 ⟨rfl, hww⟩; subst hww
              go_wp2_with fail
              go_ret
              exact ⟨by rw [HN.out]; rfl, B1.out⟩
  · have e2 := HX.out e1
    rw [e1, e2] at HO
    cases kb
    · cases ev
      · have z0 := True.intro
        have HN := hid HO.out
        simp at HN
        clear HO HX
        go_enter Tryd.func13, Tryd.ntmps13
        go_wp2_with fail
        refine (HK.out _).mono ?_
        rintro e w1 ⟨rfl, hb⟩
        have B1 := hid (HW.out.trans (hb.mono HW.out.size))
        obtain ⟨c0, c1, c2, c3⟩ := four_low HC.out hb hz
        have C1 := hid (⟨c0, c1, c2, c3⟩ : _ ∧ _ ∧ _ ∧ _)
        have z1 : w.heap.size < w1.heap.size := Nat.lt_of_lt_of_le hz hb.size
        clear hb
        go_wp2_with fail
        refine (HE.out _).mono ?_
        rintro e w2 ⟨rfl, hb⟩
        have B2 := hid (B1.out.trans (hb.mono B1.out.size))
        clear c0 c1 c2 c3
        obtain ⟨c0, c1, c2, c3⟩ := four_low C1.out hb z1
        clear hb
        go_wp2_with fail
        go_ret
        exact ⟨by rw [HN.out]; rfl, B2.out⟩
      · have z0 := True.intro
        cases vb
        · have z0 := True.intro
          have HN := hid HO.out
          simp at HN
          clear HO HX
          go_enter Tryd.func13, Tryd.ntmps13
          go_wp2_with fail
          refine (HK.out _).mono ?_
          rintro e w1 ⟨rfl, hb⟩
          have B1 := hid (HW.out.trans (hb.mono HW.out.size))
          obtain ⟨c0, c1, c2, c3⟩ := four_low HC.out hb hz
          have C1 := hid (⟨c0, c1, c2, c3⟩ : _ ∧ _ ∧ _ ∧ _)
          have z1 : w.heap.size < w1.heap.size := Nat.lt_of_lt_of_le hz hb.size
          clear hb
          go_wp2_with fail
          refine (HE.out _).mono ?_
          rintro e w2 ⟨rfl, hb⟩
          have B2 := hid (B1.out.trans (hb.mono B1.out.size))
          clear c0 c1 c2 c3
          obtain ⟨c0, c1, c2, c3⟩ := four_low C1.out hb z1
          clear hb
          go_wp2_with fail
          refine (HV.out _).mono ?_
          rintro e w3 ⟨rfl, hww⟩; subst hww
          go_wp2_with fail
          go_ret
          exact ⟨by rw [HN.out]; rfl, B2.out⟩
        · have z0 := True.intro
          cases e7 : f.toList.isEmpty
          · rw [e7] at HO
            cases fb
            · have z0 := True.intro
              have HN := hid HO.out
              simp at HN
              clear HO HX
              go_enter Tryd.func13, Tryd.ntmps13
              go_wp2_with fail
              refine (HK.out _).mono ?_
              rintro e w1 ⟨rfl, hb⟩
              have B1 := hid (HW.out.trans (hb.mono HW.out.size))
              obtain ⟨c0, c1, c2, c3⟩ := four_low HC.out hb hz
              have C1 := hid (⟨c0, c1, c2, c3⟩ : _ ∧ _ ∧ _ ∧ _)
              have z1 : w.heap.size < w1.heap.size := Nat.lt_of_lt_of_le hz hb.size
              clear hb
              go_wp2_with fail
              refine (HE.out _).mono ?_
              rintro e w2 ⟨rfl, hb⟩
              have B2 := hid (B1.out.trans (hb.mono B1.out.size))
              clear c0 c1 c2 c3
              obtain ⟨c0, c1, c2, c3⟩ := four_low C1.out hb z1
              clear hb
              go_wp2_with fail
              refine (HV.out _).mono ?_
              rintro e w3 ⟨rfl, hww⟩; subst hww
              go_wp2_with fail
              refine (HF.out _).mono ?_
              rintro e w4 ⟨rfl, hww⟩; subst hww
              go_wp2_with fail
              go_ret
              exact ⟨by rw [HN.out]; rfl, B2.out⟩
            · have z0 := True.intro
              have HN := hid HO.out
              simp at HN
              clear HO HX
              go_enter Tryd.func13, Tryd.ntmps13
              go_wp2_with fail
              refine (HK.out _).mono ?_
              rintro e w1 ⟨rfl, hb⟩
              have B1 := hid (HW.out.trans (hb.mono HW.out.size))
              obtain ⟨c0, c1, c2, c3⟩ := four_low HC.out hb hz
              have C1 := hid (⟨c0, c1, c2, c3⟩ : _ ∧ _ ∧ _ ∧ _)
              have z1 : w.heap.size < w1.heap.size := Nat.lt_of_lt_of_le hz hb.size
              clear hb
              go_wp2_with fail
              refine (HE.out _).mono ?_
              rintro e w2 ⟨rfl, hb⟩
              have B2 := hid (B1.out.trans (hb.mono B1.out.size))
              clear c0 c1 c2 c3
              obtain ⟨c0, c1, c2, c3⟩ := four_low C1.out hb z1
              clear hb
              go_wp2_with fail
              refine (HV.out _).mono ?_
              rintro e w3 ⟨rfl, hww⟩; subst hww
              go_wp2_with fail
              refine (HF.out _).mono ?_
              rintro e w4 ⟨rfl, hww⟩; subst hww
              go_wp2_with fail
              go_ret
              exact ⟨by rw [HN.out]; rfl, B2.out⟩
          · rw [e7] at HO
            have HN := hid HO.out
            simp at HN
            clear HO HX
            go_enter Tryd.func13, Tryd.ntmps13
            go_wp2_with fail
            refine (HK.out _).mono ?_
            rintro e w1 ⟨rfl, hb⟩
            have B1 := hid (HW.out.trans (hb.mono HW.out.size))
            obtain ⟨c0, c1, c2, c3⟩ := four_low HC.out hb hz
            have C1 := hid (⟨c0, c1, c2, c3⟩ : _ ∧ _ ∧ _ ∧ _)
            have z1 : w.heap.size < w1.heap.size := Nat.lt_of_lt_of_le hz hb.size
            clear hb
            go_wp2_with fail
            refine (HE.out _).mono ?_
            rintro e w2 ⟨rfl, hb⟩
            have B2 := hid (B1.out.trans (hb.mono B1.out.size))
            clear c0 c1 c2 c3
            obtain ⟨c0, c1, c2, c3⟩ := four_low C1.out hb z1
            clear hb
            go_wp2_with fail
            refine (HV.out _).mono ?_
            rintro e w3 ⟨rfl, hww⟩; subst hww
            go_wp2_with fail
            go_ret
            exact ⟨by rw [HN.out]; rfl, B2.out⟩
    · have z0 := True.intro
      cases vb
      · have z0 := True.intro
        have HN := hid HO.out
        simp at HN
        clear HO HX
        go_enter Tryd.func13, Tryd.ntmps13
        go_wp2_with fail
        refine (HK.out _).mono ?_
        rintro e w1 ⟨rfl, hb⟩
        have B1 := hid (HW.out.trans (hb.mono HW.out.size))
        obtain ⟨c0, c1, c2, c3⟩ := four_low HC.out hb hz
        have C1 := hid (⟨c0, c1, c2, c3⟩ : _ ∧ _ ∧ _ ∧ _)
        have z1 : w.heap.size < w1.heap.size := Nat.lt_of_lt_of_le hz hb.size
        clear hb
        go_wp2_with fail
        refine (HV.out _).mono ?_
        rintro e w3 ⟨rfl, hww⟩; subst hww
        go_wp2_with fail
        go_ret
        exact ⟨by rw [HN.out]; rfl, B1.out⟩
      · have z0 := True.intro
        cases e7 : f.toList.isEmpty
        · rw [e7] at HO
          cases fb
          · have z0 := True.intro
            have HN := hid HO.out
            simp at HN
            clear HO HX
            go_enter Tryd.func13, Tryd.ntmps13
            go_wp2_with fail
            refine (HK.out _).mono ?_
            rintro e w1 ⟨rfl, hb⟩
            have B1 := hid (HW.out.trans (hb.mono HW.out.size))
            obtain ⟨c0, c1, c2, c3⟩ := four_low HC.out hb hz
            have C1 := hid (⟨c0, c1, c2, c3⟩ : _ ∧ _ ∧ _ ∧ _)
            have z1 : w.heap.size < w1.heap.size := Nat.lt_of_lt_of_le hz hb.size
            clear hb
            go_wp2_with fail
            refine (HV.out _).mono ?_
            rintro e w3 ⟨rfl, hww⟩; subst hww
            go_wp2_with fail
            refine (HF.out _).mono ?_
            rintro e w4 ⟨rfl, hww⟩; subst hww
            go_wp2_with fail
            go_ret
            exact ⟨by rw [HN.out]; rfl, B1.out⟩
          · have z0 := True.intro
            have HN := hid HO.out
            simp at HN
            clear HO HX
            go_enter Tryd.func13, Tryd.ntmps13
            go_wp2_with fail
            refine (HK.out _).mono ?_
            rintro e w1 ⟨rfl, hb⟩
            have B1 := hid (HW.out.trans (hb.mono HW.out.size))
            obtain ⟨c0, c1, c2, c3⟩ := four_low HC.out hb hz
            have C1 := hid (⟨c0, c1, c2, c3⟩ : _ ∧ _ ∧ _ ∧ _)
            have z1 : w.heap.size < w1.heap.size := Nat.lt_of_lt_of_le hz hb.size
            clear hb
            go_wp2_with fail
            refine (HV.out _).mono ?_
            rintro e w3 ⟨rfl, hww⟩; subst hww
            go_wp2_with fail
            refine (HF.out _).mono ?_
            rintro e w4 ⟨rfl, hww⟩; subst hww
            go_wp2_with fail
            go_ret
            exact ⟨by rw [HN.out]; rfl, B1.out⟩
        · rw [e7] at HO
          have HN := hid HO.out
          simp at HN
          clear HO HX
          go_enter Tryd.func13, Tryd.ntmps13
          go_wp2_with fail
          refine (HK.out _).mono ?_
          rintro e w1 ⟨rfl, hb⟩
          have B1 := hid (HW.out.trans (hb.mono HW.out.size))
          obtain ⟨c0, c1, c2, c3⟩ := four_low HC.out hb hz
          have C1 := hid (⟨c0, c1, c2, c3⟩ : _ ∧ _ ∧ _ ∧ _)
          have z1 : w.heap.size < w1.heap.size := Nat.lt_of_lt_of_le hz hb.size
          clear hb
          go_wp2_with fail
          refine (HV.out _).mono ?_
          rintro e w3 ⟨rfl, hww⟩; subst hww
          go_wp2_with fail
          go_ret
          exact ⟨by rw [HN.out]; rfl, B1.out⟩
end Go.Proofs.YtppblibcbjpfnaaDoor.L
