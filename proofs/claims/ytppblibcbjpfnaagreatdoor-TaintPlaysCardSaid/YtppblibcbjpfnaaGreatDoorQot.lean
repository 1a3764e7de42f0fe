import Derived.Test.YtppblibcbjpfnaaGreatDoorQpa
import Derived.Test.YtppblibcbjpfnaaGreatDoorPto
namespace Go.Proofs.YtppblibcbjpfnaaGreatDoor.L
open Go.RowKit
set_option linter.unusedVariables false
set_option maxHeartbeats 4000000 in
theorem qotext_bad (o : To) (w : World) (hk : o.1.size ≤ maxLen) (hv : o.2.2.1.size ≤ maxLen) (h : oE o ≠ 0) : Calls Tryz.prog 19 #[ov o] w fun e w' => e = .returned (.tuple #[.string ByteArray.empty, .int .i64 (oE o)]) ∧ Below w.heap.size w w' := by
  have HT := hid (fun W => qctol_any o W hk hv)
  have h' : (oE o != 0) = true := by simpa using h
  generalize oE o = er at *
  obtain ⟨k, p, v, f⟩ := o
  simp only [ov] at *
  clear h
  go_enter Tryz.func19, Tryz.ntmps19
  go_wp2_with fail
  refine (HT.out _).mono ?_
  rintro e w1 ⟨rfl, hb⟩
  have HB := hid ((belowA w _).trans (hb.mono (belowA w _).size))
  clear hb
  go_wp2_with fail
  go_ret2
  exact ⟨rfl, HB.out⟩
set_option maxHeartbeats 8000000 in
set_option maxRecDepth 100000 in
theorem qotext_ok (o : To) (w : World) (h : oE o = 0) : Calls Tryz.prog 19 #[ov o] w fun e w' => e = .returned (.tuple #[.string (oText o), .int .i64 0]) ∧ Below w.heap.size w w' := by
  obtain ⟨z1, z2, z3⟩ := ok_sizes h
  obtain ⟨q1, q2, q3, q4, q5⟩ := oE_ok h
  have HT := hid (fun W => qctol_any o W (by unfold maxLen; omega) (by unfold maxLen; omega))
  rw [h] at HT
  obtain ⟨tt, htt⟩ : ∃ x, x = oText o := ⟨_, rfl⟩
  rw [← htt]
  unfold oText oMid oHead evB at htt
  unfold evB at q2
  obtain ⟨k, p, v, f⟩ := o
  simp only [ov] at *
  clear h q3 q4 q5
  have C0 := hid (four_alloc w (.string k) (.string p) (.string v) (.string f) 27)
  have PX := hid (fun h => eq_not_ex (s := p) h)
  have hz : w.heap.size < (w.alloc (.cells #[.string k, .string p, .string v, .string f] 27)).heap.size := by simp
  cases k0 : emB k
  · cases p1 : eqS p sEq
    · have p2 : eqS p sEx = true := by rcases q1 with q | q; (rw [p1] at q; cases q); exact q
      cases f0 : emB f
      · have u := True.intro
        have HTT := hid (show tt = k ++ ⟨#[58]⟩ ++ f by rw [htt]; simp [k0, p1, p2, f0, app3])
        have k0' : k.toList.isEmpty = false := k0
        have p1' : (p.toList == [69, 113, 117, 97, 108]) = false := by have h := p1; unfold eqS at h; rw [lEq] at h; exact h
        have p2' : (p.toList == [69, 120, 105, 115, 116, 115]) = true := by have h := p2; unfold eqS at h; rw [lEx] at h; exact h
        have f0' : f.toList.isEmpty = false := f0
        clear htt q1 q2 PX k0 p1 p2 f0
        go_enter Tryz.func19, Tryz.ntmps19
        go_wp2_with fail
        refine (HT.out _).mono ?_
        rintro e w1 ⟨rfl, hb⟩
        have HB := hid ((belowA w _).trans (hb.mono (belowA w _).size))
        obtain ⟨c0, c1, c2, c3⟩ := four_low C0.out hb hz
        have z : w.heap.size < w1.heap.size := Nat.lt_of_lt_of_le hz hb.size
        clear hb
        go_wp2_with fail
        go_ret2
        exact ⟨by rw [HTT.out]; rfl, HB.out⟩
      · have u := True.intro
        have HTT := hid (show tt = k by rw [htt]; simp [k0, p1, p2, f0])
        have k0' : k.toList.isEmpty = false := k0
        have p1' : (p.toList == [69, 113, 117, 97, 108]) = false := by have h := p1; unfold eqS at h; rw [lEq] at h; exact h
        have p2' : (p.toList == [69, 120, 105, 115, 116, 115]) = true := by have h := p2; unfold eqS at h; rw [lEx] at h; exact h
        have f0' : f.toList.isEmpty = true := f0
        clear htt q1 q2 PX k0 p1 p2 f0
        go_enter Tryz.func19, Tryz.ntmps19
        go_wp2_with fail
        refine (HT.out _).mono ?_
        rintro e w1 ⟨rfl, hb⟩
        have HB := hid ((belowA w _).trans (hb.mono (belowA w _).size))
        obtain ⟨c0, c1, c2, c3⟩ := four_low C0.out hb hz
        have z : w.heap.size < w1.heap.size := Nat.lt_of_lt_of_le hz hb.size
        clear hb
        go_wp2_with fail
        go_ret2
        exact ⟨by rw [HTT.out]; rfl, HB.out⟩
    · have p2 := PX.out p1
      cases f0 : emB f
      · have u := True.intro
        have HTT := hid (show tt = k ++ ⟨#[61]⟩ ++ v ++ ⟨#[58]⟩ ++ f by rw [htt]; simp [k0, p1, p2, f0, app3])
        have k0' : k.toList.isEmpty = false := k0
        have p1' : (p.toList == [69, 113, 117, 97, 108]) = true := by have h := p1; unfold eqS at h; rw [lEq] at h; exact h
        have p2' : (p.toList == [69, 120, 105, 115, 116, 115]) = false := by have h := p2; unfold eqS at h; rw [lEx] at h; exact h
        have f0' : f.toList.isEmpty = false := f0
        clear htt q1 q2 PX k0 p1 p2 f0
        go_enter Tryz.func19, Tryz.ntmps19
        go_wp2_with fail
        refine (HT.out _).mono ?_
        rintro e w1 ⟨rfl, hb⟩
        have HB := hid ((belowA w _).trans (hb.mono (belowA w _).size))
        obtain ⟨c0, c1, c2, c3⟩ := four_low C0.out hb hz
        have z : w.heap.size < w1.heap.size := Nat.lt_of_lt_of_le hz hb.size
        clear hb
        go_wp2_with fail
        go_ret2
        exact ⟨by rw [HTT.out]; rfl, HB.out⟩
      · have u := True.intro
        have HTT := hid (show tt = k ++ ⟨#[61]⟩ ++ v by rw [htt]; simp [k0, p1, p2, f0, app3])
        have k0' : k.toList.isEmpty = false := k0
        have p1' : (p.toList == [69, 113, 117, 97, 108]) = true := by have h := p1; unfold eqS at h; rw [lEq] at h; exact h
        have p2' : (p.toList == [69, 120, 105, 115, 116, 115]) = false := by have h := p2; unfold eqS at h; rw [lEx] at h; exact h
        have f0' : f.toList.isEmpty = true := f0
        clear htt q1 q2 PX k0 p1 p2 f0
        go_enter Tryz.func19, Tryz.ntmps19
        go_wp2_with fail
        refine (HT.out _).mono ?_
        rintro e w1 ⟨rfl, hb⟩
        have HB := hid ((belowA w _).trans (hb.mono (belowA w _).size))
        obtain ⟨c0, c1, c2, c3⟩ := four_low C0.out hb hz
        have z : w.heap.size < w1.heap.size := Nat.lt_of_lt_of_le hz hb.size
        clear hb
        go_wp2_with fail
        go_ret2
        exact ⟨by rw [HTT.out]; rfl, HB.out⟩
  · have hk : keyB k = false := by rw [em_of k0]; exact key_emp
    have p2 : eqS p sEx = true := by rcases q2 with q | q; (rw [hk] at q; cases q); rw [k0] at q; simpa using q
    have p1 : eqS p sEq = false := by cases e : eqS p sEq; rfl; (rw [PX.out e] at p2; cases p2)
    clear hk
    cases f0 : emB f
    · have u := True.intro
      have HTT := hid (show tt = ⟨#[42]⟩ ++ ⟨#[58]⟩ ++ f by rw [htt]; simp [k0, p1, p2, f0, app3])
      have k0' : k.toList.isEmpty = true := k0
      have p1' : (p.toList == [69, 113, 117, 97, 108]) = false := by have h := p1; unfold eqS at h; rw [lEq] at h; exact h
      have p2' : (p.toList == [69, 120, 105, 115, 116, 115]) = true := by have h := p2; unfold eqS at h; rw [lEx] at h; exact h
      have f0' : f.toList.isEmpty = false := f0
      clear htt q1 q2 PX k0 p1 p2 f0
      go_enter Tryz.func19, Tryz.ntmps19
      go_wp2_with fail
      refine (HT.out _).mono ?_
      rintro e w1 ⟨rfl, hb⟩
      have HB := hid ((belowA w _).trans (hb.mono (belowA w _).size))
      obtain ⟨c0, c1, c2, c3⟩ := four_low C0.out hb hz
      have z : w.heap.size < w1.heap.size := Nat.lt_of_lt_of_le hz hb.size
      clear hb
      go_wp2_with fail
      go_ret2
      exact ⟨by rw [HTT.out]; rfl, HB.out⟩
    · have u := True.intro
      have HTT := hid (show tt = ⟨#[42]⟩ by rw [htt]; simp [k0, p1, p2, f0])
      have k0' : k.toList.isEmpty = true := k0
      have p1' : (p.toList == [69, 113, 117, 97, 108]) = false := by have h := p1; unfold eqS at h; rw [lEq] at h; exact h
      have p2' : (p.toList == [69, 120, 105, 115, 116, 115]) = true := by have h := p2; unfold eqS at h; rw [lEx] at h; exact h
      have f0' : f.toList.isEmpty = true := f0
      clear htt q1 q2 PX k0 p1 p2 f0
      go_enter Tryz.func19, Tryz.ntmps19
      go_wp2_with fail
      refine (HT.out _).mono ?_
      rintro e w1 ⟨rfl, hb⟩
      have HB := hid ((belowA w _).trans (hb.mono (belowA w _).size))
      obtain ⟨c0, c1, c2, c3⟩ := four_low C0.out hb hz
      have z : w.heap.size < w1.heap.size := Nat.lt_of_lt_of_le hz hb.size
      clear hb
      go_wp2_with fail
      go_ret2
      exact ⟨by rw [HTT.out]; rfl, HB.out⟩
end Go.Proofs.YtppblibcbjpfnaaGreatDoor.L
