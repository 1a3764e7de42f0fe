import Derived.Test.YtppblibcbjpfnaaGreatDoorOtl
import Derived.Test.YtppblibcbjpfnaaGreatDoorMgC
namespace Go.Proofs.YtppblibcbjpfnaaGreatDoor.L
open Go.RowKit
set_option linter.unusedVariables false
set_option maxHeartbeats 4000000 in
theorem qeffect_any (s : ByteArray) (w : World) : Calls Tryz.prog 11 #[.string s] w fun e w' => e = .returned (.bool (effB s)) ∧ w' = w := by
  unfold effB eqS
  rw [lNS, lPN, lNE]
  cases e1 : (s.toList == [78, 111, 83, 99, 104, 101, 100, 117, 108, 101])
  · cases e2 : (s.toList == [80, 114, 101, 102, 101, 114, 78, 111, 83, 99, 104, 101, 100, 117, 108, 101])
    · cases e3 : (s.toList == [78, 111, 69, 120, 101, 99, 117, 116, 101]) <;>
      · go_enter Tryz.func11, Tryz.ntmps11
        go_wp2
        go_ret
        exact ⟨rfl, rfl⟩
    · go_enter Tryz.func11, Tryz.ntmps11
      go_wp2
      go_ret
      exact ⟨rfl, rfl⟩
  · go_enter Tryz.func11, Tryz.ntmps11
    go_wp2
    go_ret
    exact ⟨rfl, rfl⟩
set_option maxHeartbeats 4000000 in
theorem qctaint_any (t : Tn) (w : World) (hk : t.1.size ≤ maxLen) (hv : t.2.1.size ≤ maxLen) : Calls Tryz.prog 13 #[tv t] w fun e w' => e = .returned (.int .i64 (tE t)) ∧ Below w.heap.size w w' := by
  obtain ⟨k, v, f⟩ := t
  simp only [tv, tE] at *
  have HK := hid (fun W => rkey_any k W hk)
  have HV := hid (fun W => rvalue_any v W hv)
  have HE := hid (fun W => qeffect_any f W)
  cases e1 : keyB k
  · rw [e1] at HK
    rw [if_pos rfl]
    clear e1
    go_enter Tryz.func13, Tryz.ntmps13
    go_wp2_with fail
    refine (HK.out _).mono ?_
    rintro e w1 ⟨rfl, hb⟩
    have HB := hid ((belowA w _).trans (hb.mono (belowA w _).size))
    clear hb
    go_wp2_with fail
    go_ret
    exact ⟨rfl, HB.out⟩
  · rw [e1] at HK
    rw [if_neg (by decide)]
    cases e2 : valB v
    · rw [e2] at HV
      rw [if_pos rfl]
      clear e1 e2
      go_enter Tryz.func13, Tryz.ntmps13
      go_wp2_with fail
      refine (HK.out _).mono ?_
      rintro e w1 ⟨rfl, hb⟩
      have hx : w1.cell? ⟨w.heap.size, 1, none⟩ = some (.string v) := (hb.cell (p := ⟨w.heap.size, 1, none⟩) (by simp)).trans (three w _ _ _ _).2.1
      have HB := hid ((belowA w _).trans (hb.mono (belowA w _).size))
      clear hb
      go_wp2_with fail
      refine (HV.out _).mono ?_
      rintro e w2 ⟨rfl, hww⟩; subst hww
      go_wp2_with fail
      go_ret
      exact ⟨rfl, HB.out⟩
    · rw [e2] at HV
      rw [if_neg (by decide)]
      cases e3 : effB f <;>
      · rw [e3] at HE
        clear e1 e2 e3
        go_enter Tryz.func13, Tryz.ntmps13
        go_wp2_with fail
        refine (HK.out _).mono ?_
        rintro e w1 ⟨rfl, hb⟩
        have hx : w1.cell? ⟨w.heap.size, 1, none⟩ = some (.string v) := (hb.cell (p := ⟨w.heap.size, 1, none⟩) (by simp)).trans (three w _ _ _ _).2.1
        have hy : w1.cell? ⟨w.heap.size, 2, none⟩ = some (.string f) := (hb.cell (p := ⟨w.heap.size, 2, none⟩) (by simp)).trans (three w _ _ _ _).2.2
        have HB := hid ((belowA w _).trans (hb.mono (belowA w _).size))
        clear hb
        go_wp2_with fail
        refine (HV.out _).mono ?_
        rintro e w2 ⟨rfl, hww⟩; subst hww
        go_wp2_with fail
        refine (HE.out _).mono ?_
        rintro e w2 ⟨rfl, hww⟩; subst hww
        go_wp2_with fail
        go_ret
        exact ⟨rfl, HB.out⟩
theorem em_of {s : ByteArray} (h : emB s = true) : s = ByteArray.empty := emB_iff.1 h
theorem key_emp : keyB ByteArray.empty = false := by decide +kernel
theorem val_emp : valB ByteArray.empty = true := by decide +kernel
set_option maxHeartbeats 8000000 in
set_option maxRecDepth 100000 in
theorem qctol_any (o : To) (w : World) (hk : o.1.size ≤ maxLen) (hv : o.2.2.1.size ≤ maxLen) : Calls Tryz.prog 15 #[ov o] w fun e w' => e = .returned (.int .i64 (oE o)) ∧ Below w.heap.size w w' := by
  obtain ⟨k, p, v, f⟩ := o
  simp only at hk hv
  have HK := hid (fun W => rkey_any k W hk)
  have HV := hid (fun W => rvalue_any v W hv)
  have HF := hid (fun W => qeffect_any f W)
  obtain ⟨er, her⟩ : ∃ er, er = oE (k, p, v, f) := ⟨_, rfl⟩
  rw [← her]
  unfold oE evB at her
  simp only [ov] at *
  have HC := hid (four_alloc w (.string k) (.string p) (.string v) (.string f) 27)
  have HW := hid (belowA w (.cells #[.string k, .string p, .string v, .string f] 27))
  have hz : w.heap.size < (w.alloc (.cells #[.string k, .string p, .string v, .string f] 27)).heap.size := by simp
  have PX := hid (fun h => eq_not_ex (s := p) h)
  cases p1 : eqS p sEq
  · cases p2 : eqS p sEx
    · have u := True.intro
      have HN := hid (show er = 46 by rw [her]; simp [p1, p2])
      clear her PX
      have p1' : (p.toList == [69, 113, 117, 97, 108]) = false := by have h := p1; unfold eqS at h; rw [lEq] at h; exact h
      have p2' : (p.toList == [69, 120, 105, 115, 116, 115]) = false := by have h := p2; unfold eqS at h; rw [lEx] at h; exact h
      clear p1 p2
      go_enter Tryz.func15, Tryz.ntmps15
      go_wp2_with fail
      go_ret
      exact ⟨by rw [HN.out]; rfl, HW.out⟩
    · have u := True.intro
      cases k0 : emB k
      · cases k1 : keyB k
        · rw [k1] at HK
          have HN := hid (show er = 41 by rw [her]; simp [p1, p2, k0, k1])
          clear her PX
          have p1' : (p.toList == [69, 113, 117, 97, 108]) = false := by have h := p1; unfold eqS at h; rw [lEq] at h; exact h
          have p2' : (p.toList == [69, 120, 105, 115, 116, 115]) = true := by have h := p2; unfold eqS at h; rw [lEx] at h; exact h
          have k0' : k.toList.isEmpty = false := k0
          clear p1 p2 k0 k1
          go_enter Tryz.func15, Tryz.ntmps15
          go_wp2_with fail
          refine (HK.out _).mono ?_
          rintro e w1 ⟨rfl, hb⟩
          have B1 := hid (HW.out.trans (hb.mono HW.out.size))
          obtain ⟨c0, c1, c2, c3⟩ := four_low HC.out hb hz
          have z1 : w.heap.size < w1.heap.size := Nat.lt_of_lt_of_le hz hb.size
          clear hb
          go_wp2_with fail
          go_ret
          exact ⟨by rw [HN.out]; rfl, B1.out⟩
        · rw [k1] at HK
          cases v0 : emB v
          · have u := True.intro
            have HN := hid (show er = 42 by rw [her]; simp [p1, p2, k0, k1, v0])
            clear her PX
            have p1' : (p.toList == [69, 113, 117, 97, 108]) = false := by have h := p1; unfold eqS at h; rw [lEq] at h; exact h
            have p2' : (p.toList == [69, 120, 105, 115, 116, 115]) = true := by have h := p2; unfold eqS at h; rw [lEx] at h; exact h
            have k0' : k.toList.isEmpty = false := k0
            have v0' : v.toList.isEmpty = false := v0
            clear p1 p2 k0 k1 v0
            go_enter Tryz.func15, Tryz.ntmps15
            go_wp2_with fail
            refine (HK.out _).mono ?_
            rintro e w1 ⟨rfl, hb⟩
            have B1 := hid (HW.out.trans (hb.mono HW.out.size))
            obtain ⟨c0, c1, c2, c3⟩ := four_low HC.out hb hz
            have z1 : w.heap.size < w1.heap.size := Nat.lt_of_lt_of_le hz hb.size
            clear hb
            go_wp2_with fail
            go_ret
            exact ⟨by rw [HN.out]; rfl, B1.out⟩
          · have v1 : valB v = true := by rw [em_of v0]; exact val_emp
            rw [v1] at HV
            cases f0 : emB f
            · cases f1 : effB f
              · rw [f1] at HF
                have HN := hid (show er = 40 by rw [her]; simp [p1, p2, k0, k1, v0, v1, f0, f1])
                clear her PX
                have p1' : (p.toList == [69, 113, 117, 97, 108]) = false := by have h := p1; unfold eqS at h; rw [lEq] at h; exact h
                have p2' : (p.toList == [69, 120, 105, 115, 116, 115]) = true := by have h := p2; unfold eqS at h; rw [lEx] at h; exact h
                have k0' : k.toList.isEmpty = false := k0
                have v0' : v.toList.isEmpty = true := v0
                have f0' : f.toList.isEmpty = false := f0
                clear p1 p2 k0 k1 v0 v1 f0 f1
                go_enter Tryz.func15, Tryz.ntmps15
                go_wp2_with fail
                refine (HK.out _).mono ?_
                rintro e w1 ⟨rfl, hb⟩
                have B1 := hid (HW.out.trans (hb.mono HW.out.size))
                obtain ⟨c0, c1, c2, c3⟩ := four_low HC.out hb hz
                have z1 : w.heap.size < w1.heap.size := Nat.lt_of_lt_of_le hz hb.size
                clear hb
                go_wp2_with fail
                refine (HV.out _).mono ?_
                rintro e w9 ⟨rfl, hww⟩; subst hww
                go_wp2_with fail
                refine (HF.out _).mono ?_
                rintro e w9 ⟨rfl, hww⟩; subst hww
                go_wp2_with fail
                go_ret
                exact ⟨by rw [HN.out]; rfl, B1.out⟩
              · rw [f1] at HF
                have HN := hid (show er = 0 by rw [her]; simp [p1, p2, k0, k1, v0, v1, f0, f1])
                clear her PX
                have p1' : (p.toList == [69, 113, 117, 97, 108]) = false := by have h := p1; unfold eqS at h; rw [lEq] at h; exact h
                have p2' : (p.toList == [69, 120, 105, 115, 116, 115]) = true := by have h := p2; unfold eqS at h; rw [lEx] at h; exact h
                have k0' : k.toList.isEmpty = false := k0
                have v0' : v.toList.isEmpty = true := v0
                have f0' : f.toList.isEmpty = false := f0
                clear p1 p2 k0 k1 v0 v1 f0 f1
                go_enter Tryz.func15, Tryz.ntmps15
                go_wp2_with fail
                refine (HK.out _).mono ?_
                rintro e w1 ⟨rfl, hb⟩
                have B1 := hid (HW.out.trans (hb.mono HW.out.size))
                obtain ⟨c0, c1, c2, c3⟩ := four_low HC.out hb hz
                have z1 : w.heap.size < w1.heap.size := Nat.lt_of_lt_of_le hz hb.size
                clear hb
                go_wp2_with fail
                refine (HV.out _).mono ?_
                rintro e w9 ⟨rfl, hww⟩; subst hww
                go_wp2_with fail
                refine (HF.out _).mono ?_
                rintro e w9 ⟨rfl, hww⟩; subst hww
                go_wp2_with fail
                go_ret
                exact ⟨by rw [HN.out]; rfl, B1.out⟩
            · have u := True.intro
              have HN := hid (show er = 0 by rw [her]; simp [p1, p2, k0, k1, v0, v1, f0])
              clear her PX
              have p1' : (p.toList == [69, 113, 117, 97, 108]) = false := by have h := p1; unfold eqS at h; rw [lEq] at h; exact h
              have p2' : (p.toList == [69, 120, 105, 115, 116, 115]) = true := by have h := p2; unfold eqS at h; rw [lEx] at h; exact h
              have k0' : k.toList.isEmpty = false := k0
              have v0' : v.toList.isEmpty = true := v0
              have f0' : f.toList.isEmpty = true := f0
              clear p1 p2 k0 k1 v0 v1 f0
              go_enter Tryz.func15, Tryz.ntmps15
              go_wp2_with fail
              refine (HK.out _).mono ?_
              rintro e w1 ⟨rfl, hb⟩
              have B1 := hid (HW.out.trans (hb.mono HW.out.size))
              obtain ⟨c0, c1, c2, c3⟩ := four_low HC.out hb hz
              have z1 : w.heap.size < w1.heap.size := Nat.lt_of_lt_of_le hz hb.size
              clear hb
              go_wp2_with fail
              refine (HV.out _).mono ?_
              rintro e w9 ⟨rfl, hww⟩; subst hww
              go_wp2_with fail
              go_ret
              exact ⟨by rw [HN.out]; rfl, B1.out⟩
      · have k1 : keyB k = false := by rw [em_of k0]; exact key_emp
        cases v0 : emB v
        · have u := True.intro
          have HN := hid (show er = 42 by rw [her]; simp [p1, p2, k0, k1, v0])
          clear her PX
          have p1' : (p.toList == [69, 113, 117, 97, 108]) = false := by have h := p1; unfold eqS at h; rw [lEq] at h; exact h
          have p2' : (p.toList == [69, 120, 105, 115, 116, 115]) = true := by have h := p2; unfold eqS at h; rw [lEx] at h; exact h
          have k0' : k.toList.isEmpty = true := k0
          have v0' : v.toList.isEmpty = false := v0
          clear p1 p2 k0 k1 v0
          go_enter Tryz.func15, Tryz.ntmps15
          go_wp2_with fail
          go_ret
          exact ⟨by rw [HN.out]; rfl, HW.out⟩
        · have v1 : valB v = true := by rw [em_of v0]; exact val_emp
          rw [v1] at HV
          cases f0 : emB f
          · cases f1 : effB f
            · rw [f1] at HF
              have HN := hid (show er = 40 by rw [her]; simp [p1, p2, k0, k1, v0, v1, f0, f1])
              clear her PX
              have p1' : (p.toList == [69, 113, 117, 97, 108]) = false := by have h := p1; unfold eqS at h; rw [lEq] at h; exact h
              have p2' : (p.toList == [69, 120, 105, 115, 116, 115]) = true := by have h := p2; unfold eqS at h; rw [lEx] at h; exact h
              have k0' : k.toList.isEmpty = true := k0
              have v0' : v.toList.isEmpty = true := v0
              have f0' : f.toList.isEmpty = false := f0
              clear p1 p2 k0 k1 v0 v1 f0 f1
              go_enter Tryz.func15, Tryz.ntmps15
              go_wp2_with fail
              refine (HV.out _).mono ?_
              rintro e w9 ⟨rfl, hww⟩; subst hww
              go_wp2_with fail
              refine (HF.out _).mono ?_
              rintro e w9 ⟨rfl, hww⟩; subst hww
              go_wp2_with fail
              go_ret
              exact ⟨by rw [HN.out]; rfl, HW.out⟩
            · rw [f1] at HF
              have HN := hid (show er = 0 by rw [her]; simp [p1, p2, k0, k1, v0, v1, f0, f1])
              clear her PX
              have p1' : (p.toList == [69, 113, 117, 97, 108]) = false := by have h := p1; unfold eqS at h; rw [lEq] at h; exact h
              have p2' : (p.toList == [69, 120, 105, 115, 116, 115]) = true := by have h := p2; unfold eqS at h; rw [lEx] at h; exact h
              have k0' : k.toList.isEmpty = true := k0
              have v0' : v.toList.isEmpty = true := v0
              have f0' : f.toList.isEmpty = false := f0
              clear p1 p2 k0 k1 v0 v1 f0 f1
              go_enter Tryz.func15, Tryz.ntmps15
              go_wp2_with fail
              refine (HV.out _).mono ?_
              rintro e w9 ⟨rfl, hww⟩; subst hww
              go_wp2_with fail
              refine (HF.out _).mono ?_
              rintro e w9 ⟨rfl, hww⟩; subst hww
              go_wp2_with fail
              go_ret
              exact ⟨by rw [HN.out]; rfl, HW.out⟩
          · have u := True.intro
            have HN := hid (show er = 0 by rw [her]; simp [p1, p2, k0, k1, v0, v1, f0])
            clear her PX
            have p1' : (p.toList == [69, 113, 117, 97, 108]) = false := by have h := p1; unfold eqS at h; rw [lEq] at h; exact h
            have p2' : (p.toList == [69, 120, 105, 115, 116, 115]) = true := by have h := p2; unfold eqS at h; rw [lEx] at h; exact h
            have k0' : k.toList.isEmpty = true := k0
            have v0' : v.toList.isEmpty = true := v0
            have f0' : f.toList.isEmpty = true := f0
            clear p1 p2 k0 k1 v0 v1 f0
            go_enter Tryz.func15, Tryz.ntmps15
            go_wp2_with fail
            refine (HV.out _).mono ?_
            rintro e w9 ⟨rfl, hww⟩; subst hww
            go_wp2_with fail
            go_ret
            exact ⟨by rw [HN.out]; rfl, HW.out⟩
  · have p2 := PX.out p1
    cases k0 : emB k
    · cases k1 : keyB k
      · rw [k1] at HK
        have HN := hid (show er = 41 by rw [her]; simp [p1, p2, k0, k1])
        clear her PX
        have p1' : (p.toList == [69, 113, 117, 97, 108]) = true := by have h := p1; unfold eqS at h; rw [lEq] at h; exact h
        have p2' : (p.toList == [69, 120, 105, 115, 116, 115]) = false := by have h := p2; unfold eqS at h; rw [lEx] at h; exact h
        have k0' : k.toList.isEmpty = false := k0
        clear p1 p2 k0 k1
        go_enter Tryz.func15, Tryz.ntmps15
        go_wp2_with fail
        refine (HK.out _).mono ?_
        rintro e w1 ⟨rfl, hb⟩
        have B1 := hid (HW.out.trans (hb.mono HW.out.size))
        obtain ⟨c0, c1, c2, c3⟩ := four_low HC.out hb hz
        have z1 : w.heap.size < w1.heap.size := Nat.lt_of_lt_of_le hz hb.size
        clear hb
        go_wp2_with fail
        go_ret
        exact ⟨by rw [HN.out]; rfl, B1.out⟩
      · rw [k1] at HK
        cases v1 : valB v
        · rw [v1] at HV
          have HN := hid (show er = 42 by rw [her]; simp [p1, p2, k0, k1, v1])
          clear her PX
          have p1' : (p.toList == [69, 113, 117, 97, 108]) = true := by have h := p1; unfold eqS at h; rw [lEq] at h; exact h
          have p2' : (p.toList == [69, 120, 105, 115, 116, 115]) = false := by have h := p2; unfold eqS at h; rw [lEx] at h; exact h
          have k0' : k.toList.isEmpty = false := k0
          clear p1 p2 k0 k1 v1
          go_enter Tryz.func15, Tryz.ntmps15
          go_wp2_with fail
          refine (HK.out _).mono ?_
          rintro e w1 ⟨rfl, hb⟩
          have B1 := hid (HW.out.trans (hb.mono HW.out.size))
          obtain ⟨c0, c1, c2, c3⟩ := four_low HC.out hb hz
          have z1 : w.heap.size < w1.heap.size := Nat.lt_of_lt_of_le hz hb.size
          clear hb
          go_wp2_with fail
          refine (HV.out _).mono ?_
          rintro e w9 ⟨rfl, hww⟩; subst hww
          go_wp2_with fail
          go_ret
          exact ⟨by rw [HN.out]; rfl, B1.out⟩
        · rw [v1] at HV
          cases f0 : emB f
          · cases f1 : effB f
            · rw [f1] at HF
              have HN := hid (show er = 40 by rw [her]; simp [p1, p2, k0, k1, v1, f0, f1])
              clear her PX
              have p1' : (p.toList == [69, 113, 117, 97, 108]) = true := by have h := p1; unfold eqS at h; rw [lEq] at h; exact h
              have p2' : (p.toList == [69, 120, 105, 115, 116, 115]) = false := by have h := p2; unfold eqS at h; rw [lEx] at h; exact h
              have k0' : k.toList.isEmpty = false := k0
              have f0' : f.toList.isEmpty = false := f0
              clear p1 p2 k0 k1 v1 f0 f1
              go_enter Tryz.func15, Tryz.ntmps15
              go_wp2_with fail
              refine (HK.out _).mono ?_
              rintro e w1 ⟨rfl, hb⟩
              have B1 := hid (HW.out.trans (hb.mono HW.out.size))
              obtain ⟨c0, c1, c2, c3⟩ := four_low HC.out hb hz
              have z1 : w.heap.size < w1.heap.size := Nat.lt_of_lt_of_le hz hb.size
              clear hb
              go_wp2_with fail
              refine (HV.out _).mono ?_
              rintro e w9 ⟨rfl, hww⟩; subst hww
              go_wp2_with fail
              refine (HF.out _).mono ?_
              rintro e w9 ⟨rfl, hww⟩; subst hww
              go_wp2_with fail
              go_ret
              exact ⟨by rw [HN.out]; rfl, B1.out⟩
            · rw [f1] at HF
              have HN := hid (show er = 0 by rw [her]; simp [p1, p2, k0, k1, v1, f0, f1])
              clear her PX
              have p1' : (p.toList == [69, 113, 117, 97, 108]) = true := by have h := p1; unfold eqS at h; rw [lEq] at h; exact h
              have p2' : (p.toList == [69, 120, 105, 115, 116, 115]) = false := by have h := p2; unfold eqS at h; rw [lEx] at h; exact h
              have k0' : k.toList.isEmpty = false := k0
              have f0' : f.toList.isEmpty = false := f0
              clear p1 p2 k0 k1 v1 f0 f1
              go_enter Tryz.func15, Tryz.ntmps15
              go_wp2_with fail
              refine (HK.out _).mono ?_
              rintro e w1 ⟨rfl, hb⟩
              have B1 := hid (HW.out.trans (hb.mono HW.out.size))
              obtain ⟨c0, c1, c2, c3⟩ := four_low HC.out hb hz
              have z1 : w.heap.size < w1.heap.size := Nat.lt_of_lt_of_le hz hb.size
              clear hb
              go_wp2_with fail
              refine (HV.out _).mono ?_
              rintro e w9 ⟨rfl, hww⟩; subst hww
              go_wp2_with fail
              refine (HF.out _).mono ?_
              rintro e w9 ⟨rfl, hww⟩; subst hww
              go_wp2_with fail
              go_ret
              exact ⟨by rw [HN.out]; rfl, B1.out⟩
          · have u := True.intro
            have HN := hid (show er = 0 by rw [her]; simp [p1, p2, k0, k1, v1, f0])
            clear her PX
            have p1' : (p.toList == [69, 113, 117, 97, 108]) = true := by have h := p1; unfold eqS at h; rw [lEq] at h; exact h
            have p2' : (p.toList == [69, 120, 105, 115, 116, 115]) = false := by have h := p2; unfold eqS at h; rw [lEx] at h; exact h
            have k0' : k.toList.isEmpty = false := k0
            have f0' : f.toList.isEmpty = true := f0
            clear p1 p2 k0 k1 v1 f0
            go_enter Tryz.func15, Tryz.ntmps15
            go_wp2_with fail
            refine (HK.out _).mono ?_
            rintro e w1 ⟨rfl, hb⟩
            have B1 := hid (HW.out.trans (hb.mono HW.out.size))
            obtain ⟨c0, c1, c2, c3⟩ := four_low HC.out hb hz
            have z1 : w.heap.size < w1.heap.size := Nat.lt_of_lt_of_le hz hb.size
            clear hb
            go_wp2_with fail
            refine (HV.out _).mono ?_
            rintro e w9 ⟨rfl, hww⟩; subst hww
            go_wp2_with fail
            go_ret
            exact ⟨by rw [HN.out]; rfl, B1.out⟩
    · have k1 : keyB k = false := by rw [em_of k0]; exact key_emp
      have HN := hid (show er = 41 by rw [her]; simp [p1, p2, k0, k1])
      clear her PX
      have p1' : (p.toList == [69, 113, 117, 97, 108]) = true := by have h := p1; unfold eqS at h; rw [lEq] at h; exact h
      have p2' : (p.toList == [69, 120, 105, 115, 116, 115]) = false := by have h := p2; unfold eqS at h; rw [lEx] at h; exact h
      have k0' : k.toList.isEmpty = true := k0
      clear p1 p2 k0 k1
      go_enter Tryz.func15, Tryz.ntmps15
      go_wp2_with fail
      go_ret
      exact ⟨by rw [HN.out]; rfl, HW.out⟩
set_option maxHeartbeats 8000000 in
set_option maxRecDepth 100000 in
theorem qmatch_any (o : To) (t : Tn) (w : World) : Calls Tryz.prog 36 #[ov o, tv t] w fun e w' => e = .returned (.bool (mt o t)) ∧ Below w.heap.size w w' := by
  obtain ⟨k, p, v, f⟩ := o
  obtain ⟨a, b, c⟩ := t
  obtain ⟨r, hr⟩ : ∃ r, r = mt (k, p, v, f) (a, b, c) := ⟨_, rfl⟩
  rw [← hr]
  unfold mt evB eqS emB at hr
  rw [lEx, lEq] at hr
  simp only [ov, tv] at *
  have HB := hid (below2 w (.cells #[.string k, .string p, .string v, .string f] 27) (.cells #[.string a, .string b, .string c] 25))
  cases f0 : f.toList.isEmpty
  · cases f1 : (f.toList == c.toList)
    · have u := True.intro
      have HN := hid (show r = false by rw [hr]; simp [f0, f1])
      clear hr
      go_enter Tryz.func36, Tryz.ntmps36
      go_wp2
      go_ret
      exact ⟨by rw [HN.out]; rfl, HB.out⟩
    · have u := True.intro
      cases p2 : (p.toList == [69, 120, 105, 115, 116, 115])
      · cases p1 : (p.toList == [69, 113, 117, 97, 108])
        · have u := True.intro
          have HN := hid (show r = false by rw [hr]; simp [f0, f1, p1, p2])
          clear hr
          go_enter Tryz.func36, Tryz.ntmps36
          go_wp2
          go_ret
          exact ⟨by rw [HN.out]; rfl, HB.out⟩
        · cases k1 : (k.toList == a.toList)
          · have u := True.intro
            have HN := hid (show r = false by rw [hr]; simp [f0, f1, p1, p2, k1])
            clear hr
            go_enter Tryz.func36, Tryz.ntmps36
            go_wp2
            go_ret
            exact ⟨by rw [HN.out]; rfl, HB.out⟩
          · cases v1 : (v.toList == b.toList)
            · have u := True.intro
              have HN := hid (show r = false by rw [hr]; simp [f0, f1, p1, p2, k1, v1])
              clear hr
              go_enter Tryz.func36, Tryz.ntmps36
              go_wp2
              go_ret
              exact ⟨by rw [HN.out]; rfl, HB.out⟩
            · have u := True.intro
              have HN := hid (show r = true by rw [hr]; simp [f0, f1, p1, p2, k1, v1])
              clear hr
              go_enter Tryz.func36, Tryz.ntmps36
              go_wp2
              go_ret
              exact ⟨by rw [HN.out]; rfl, HB.out⟩
      · cases k0 : k.toList.isEmpty
        · cases k1 : (k.toList == a.toList)
          · have u := True.intro
            have HN := hid (show r = false by rw [hr]; simp [f0, f1, p2, k0, k1])
            clear hr
            go_enter Tryz.func36, Tryz.ntmps36
            go_wp2
            go_ret
            exact ⟨by rw [HN.out]; rfl, HB.out⟩
          · have u := True.intro
            have HN := hid (show r = true by rw [hr]; simp [f0, f1, p2, k0, k1])
            clear hr
            go_enter Tryz.func36, Tryz.ntmps36
            go_wp2
            go_ret
            exact ⟨by rw [HN.out]; rfl, HB.out⟩
        · have u := True.intro
          have HN := hid (show r = true by rw [hr]; simp [f0, f1, p2, k0])
          clear hr
          go_enter Tryz.func36, Tryz.ntmps36
          go_wp2
          go_ret
          exact ⟨by rw [HN.out]; rfl, HB.out⟩
  · have u := True.intro
    cases p2 : (p.toList == [69, 120, 105, 115, 116, 115])
    · cases p1 : (p.toList == [69, 113, 117, 97, 108])
      · have u := True.intro
        have HN := hid (show r = false by rw [hr]; simp [f0, p1, p2])
        clear hr
        go_enter Tryz.func36, Tryz.ntmps36
        go_wp2
        go_ret
        exact ⟨by rw [HN.out]; rfl, HB.out⟩
      · cases k1 : (k.toList == a.toList)
        · have u := True.intro
          have HN := hid (show r = false by rw [hr]; simp [f0, p1, p2, k1])
          clear hr
          go_enter Tryz.func36, Tryz.ntmps36
          go_wp2
          go_ret
          exact ⟨by rw [HN.out]; rfl, HB.out⟩
        · cases v1 : (v.toList == b.toList)
          · have u := True.intro
            have HN := hid (show r = false by rw [hr]; simp [f0, p1, p2, k1, v1])
            clear hr
            go_enter Tryz.func36, Tryz.ntmps36
            go_wp2
            go_ret
            exact ⟨by rw [HN.out]; rfl, HB.out⟩
          · have u := True.intro
            have HN := hid (show r = true by rw [hr]; simp [f0, p1, p2, k1, v1])
            clear hr
            go_enter Tryz.func36, Tryz.ntmps36
            go_wp2
            go_ret
            exact ⟨by rw [HN.out]; rfl, HB.out⟩
    · cases k0 : k.toList.isEmpty
      · cases k1 : (k.toList == a.toList)
        · have u := True.intro
          have HN := hid (show r = false by rw [hr]; simp [f0, p2, k0, k1])
          clear hr
          go_enter Tryz.func36, Tryz.ntmps36
          go_wp2
          go_ret
          exact ⟨by rw [HN.out]; rfl, HB.out⟩
        · have u := True.intro
          have HN := hid (show r = true by rw [hr]; simp [f0, p2, k0, k1])
          clear hr
          go_enter Tryz.func36, Tryz.ntmps36
          go_wp2
          go_ret
          exact ⟨by rw [HN.out]; rfl, HB.out⟩
      · have u := True.intro
        have HN := hid (show r = true by rw [hr]; simp [f0, p2, k0])
        clear hr
        go_enter Tryz.func36, Tryz.ntmps36
        go_wp2
        go_ret
        exact ⟨by rw [HN.out]; rfl, HB.out⟩
end Go.Proofs.YtppblibcbjpfnaaGreatDoor.L
