import Derived.Test.YtppblibcbjpfnaaDoorOtl
import Derived.Test.YtppblibcbjpfnaaDoorRnk
namespace Go.Proofs.YtppblibcbjpfnaaDoor.L
open Go.RowKit
set_option linter.unusedVariables false
set_option maxHeartbeats 4000000 in
theorem qeffect_any (s : ByteArray) (w : World) : Calls Tryd.prog 63 #[.string s] w fun e w' => e = .returned (.bool (effB s)) ∧ w' = w := by
  unfold effB eqS
  rw [lNS, lPN, lNE]
  cases e1 : (s.toList == [78, 111, 83, 99, 104, 101, 100, 117, 108, 101])
  · cases e2 : (s.toList == [80, 114, 101, 102, 101, 114, 78, 111, 83, 99, 104, 101, 100, 117, 108, 101])
    · cases e3 : (s.toList == [78, 111, 69, 120, 101, 99, 117, 116, 101]) <;>
      · go_enter Tryd.func63, Tryd.ntmps63
        go_wp2
        go_ret
        exact ⟨rfl, rfl⟩
    · go_enter Tryd.func63, Tryd.ntmps63
      go_wp2
      go_ret
      exact ⟨rfl, rfl⟩
  · go_enter Tryd.func63, Tryd.ntmps63
    go_wp2
    go_ret
    exact ⟨rfl, rfl⟩
set_option maxHeartbeats 4000000 in
theorem qctaint_any (t : Tn) (w : World) (hk : t.1.size ≤ maxLen) (hv : t.2.1.size ≤ maxLen) : Calls Tryd.prog 47 #[tv t] w fun e w' => e = .returned (.int .i64 (tE t)) ∧ Below w.heap.size w w' := by
  obtain ⟨k, v, f⟩ := t
  simp only [tv, tE] at *
  have HK := hid (fun W => rkey_any k W hk)
  have HV := hid (fun W => rvalue_any v W hv)
  have HE := hid (fun W => qeffect_any f W)
  cases e1 : keyB k
  · rw [e1] at HK
    rw [if_pos rfl]
    clear e1
    go_enter Tryd.func47, Tryd.ntmps47
    go_wp2_with fail
    refine (HK.out _).mono ?_
    rintro e w1 ⟨rfl, hb⟩
    have HB := hid ((belowA w _).trans (hb.mono (belowA w _).size))
    clear hb
    go_wp2_with fail
    go_ret
    exact ⟨rfl, HB.out⟩
  · rw [e1] at HK
    rw [if_neg (by decide)]
    cases e2 : valB v
    · rw [e2] at HV
      rw [if_pos rfl]
      clear e1 e2
      go_enter Tryd.func47, Tryd.ntmps47
      go_wp2_with fail
      refine (HK.out _).mono ?_
      rintro e w1 ⟨rfl, hb⟩
      have hx : w1.cell? ⟨w.heap.size, 1, none⟩ = some (.string v) := (hb.cell (p := ⟨w.heap.size, 1, none⟩) (by simp)).trans (three w _ _ _ _).2.1
      have HB := hid ((belowA w _).trans (hb.mono (belowA w _).size))
      clear hb
      go_wp2_with fail
      refine (HV.out _).mono ?_
      rintro e w2 ⟨rfl, hww⟩; subst hww
      go_wp2_with fail
      go_ret
      exact ⟨rfl, HB.out⟩
    · rw [e2] at HV
      rw [if_neg (by decide)]
      cases e3 : effB f <;>
      · rw [e3] at HE
        clear e1 e2 e3
        go_enter Tryd.func47, Tryd.ntmps47
        go_wp2_with fail
        refine (HK.out _).mono ?_
        rintro e w1 ⟨rfl, hb⟩
        have hx : w1.cell? ⟨w.heap.size, 1, none⟩ = some (.string v) := (hb.cell (p := ⟨w.heap.size, 1, none⟩) (by simp)).trans (three w _ _ _ _).2.1
        have hy : w1.cell? ⟨w.heap.size, 2, none⟩ = some (.string f) := (hb.cell (p := ⟨w.heap.size, 2, none⟩) (by simp)).trans (three w _ _ _ _).2.2
        have HB := hid ((belowA w _).trans (hb.mono (belowA w _).size))
        clear hb
        go_wp2_with fail
        refine (HV.out _).mono ?_
        rintro e w2 ⟨rfl, hww⟩; subst hww
        go_wp2_with fail
        refine (HE.out _).mono ?_
        rintro e w2 ⟨rfl, hww⟩; subst hww
        go_wp2_with fail
        go_ret
        exact ⟨rfl, HB.out⟩
theorem em_of {s : ByteArray} (h : emB s = true) : s = ByteArray.empty := emB_iff.1 h
theorem key_emp : keyB ByteArray.empty = false := by decide +kernel
theorem val_emp : valB ByteArray.empty = true := by decide +kernel
set_option maxHeartbeats 8000000 in
set_option maxRecDepth 100000 in
theorem qmatch_any (o : To) (t : Tn) (w : World) : Calls Tryd.prog 51 #[ov o, tv t] w fun e w' => e = .returned (.bool (mt o t)) ∧ Below w.heap.size w w' := by
  obtain ⟨k, p, v, f⟩ := o
  obtain ⟨a, b, c⟩ := t
  obtain ⟨r, hr⟩ : ∃ r, r = mt (k, p, v, f) (a, b, c) := ⟨_, rfl⟩
  rw [← hr]
  unfold mt evB eqS emB at hr
  rw [lEx, lEq] at hr
  simp only [ov, tv] at *
  have HB := hid (below2 w (.cells #[.string k, .string p, .string v, .string f] 25) (.cells #[.string a, .string b, .string c] 23))
  cases f0 : f.toList.isEmpty
  · cases f1 : (f.toList == c.toList)
    · have u := True.intro
      have HN := hid (show r = false by rw [hr]; simp [f0, f1])
      clear hr
      go_enter Tryd.func51, Tryd.ntmps51
      go_wp2
      go_ret
      exact ⟨by rw [HN.out]; rfl, HB.out⟩
    · have u := True.intro
      cases p2 : (p.toList == [69, 120, 105, 115, 116, 115])
      · cases p1 : (p.toList == [69, 113, 117, 97, 108])
        · have u := True.intro
          have HN := hid (show r = false by rw [hr]; simp [f0, f1, p1, p2])
          clear hr
          go_enter Tryd.func51, Tryd.ntmps51
          go_wp2
          go_ret
          exact ⟨by rw [HN.out]; rfl, HB.out⟩
        · cases k1 : (k.toList == a.toList)
          · have u := True.intro
            have HN := hid (show r = false by rw [hr]; simp [f0, f1, p1, p2, k1])
            clear hr
            go_enter Tryd.func51, Tryd.ntmps51
            go_wp2
            go_ret
            exact ⟨by rw [HN.out]; rfl, HB.out⟩
          · cases v1 : (v.toList == b.toList)
            · have u := True.intro
              have HN := hid (show r = false by rw [hr]; simp [f0, f1, p1, p2, k1, v1])
              clear hr
              go_enter Tryd.func51, Tryd.ntmps51
              go_wp2
              go_ret
              exact ⟨by rw [HN.out]; rfl, HB.out⟩
            · have u := True.intro
              have HN := hid (show r = true by rw [hr]; simp [f0, f1, p1, p2, k1, v1])
              clear hr
              go_enter Tryd.func51, Tryd.ntmps51
              go_wp2
              go_ret
              exact ⟨by rw [HN.out]; rfl, HB.out⟩
      · cases k0 : k.toList.isEmpty
        · cases k1 : (k.toList == a.toList)
          · have u := True.intro
            have HN := hid (show r = false by rw [hr]; simp [f0, f1, p2, k0, k1])
            clear hr
            go_enter Tryd.func51, Tryd.ntmps51
            go_wp2
            go_ret
            exact ⟨by rw [HN.out]; rfl, HB.out⟩
          · have u := True.intro
            have HN := hid (show r = true by rw [hr]; simp [f0, f1, p2, k0, k1])
            clear hr
            go_enter Tryd.func51, Tryd.ntmps51
            go_wp2
            go_ret
            exact ⟨by rw [HN.out]; rfl, HB.out⟩
        · have u := True.intro
          have HN := hid (show r = true by rw [hr]; simp [f0, f1, p2, k0])
          clear hr
          go_enter Tryd.func51, Tryd.ntmps51
          go_wp2
          go_ret
          exact ⟨by rw [HN.out]; rfl, HB.out⟩
  · have u := True.intro
    cases p2 : (p.toList == [69, 120, 105, 115, 116, 115])
    · cases p1 : (p.toList == [69, 113, 117, 97, 108])
      · have u := True.intro
        have HN := hid (show r = false by rw [hr]; simp [f0, p1, p2])
        clear hr
        go_enter Tryd.func51, Tryd.ntmps51
        go_wp2
        go_ret
        exact ⟨by rw [HN.out]; rfl, HB.out⟩
      · cases k1 : (k.toList == a.toList)
        · have u := True.intro
          have HN := hid (show r = false by rw [hr]; simp [f0, p1, p2, k1])
          clear hr
          go_enter Tryd.func51, Tryd.ntmps51
          go_wp2
          go_ret
          exact ⟨by rw [HN.out]; rfl, HB.out⟩
        · cases v1 : (v.toList == b.toList)
          · have u := True.intro
            have HN := hid (show r = false by rw [hr]; simp [f0, p1, p2, k1, v1])
            clear hr
            go_enter Tryd.func51, Tryd.ntmps51
            go_wp2
            go_ret
            exact ⟨by rw [HN.out]; rfl, HB.out⟩
          · have u := True.intro
            have HN := hid (show r = true by rw [hr]; simp [f0, p1, p2, k1, v1])
            clear hr
            go_enter Tryd.func51, Tryd.ntmps51
            go_wp2
            go_ret
            exact ⟨by rw [HN.out]; rfl, HB.out⟩
    · cases k0 : k.toList.isEmpty
      · cases k1 : (k.toList == a.toList)
        · have u := True.intro
          have HN := hid (show r = false by rw [hr]; simp [f0, p2, k0, k1])
          clear hr
          go_enter Tryd.func51, Tryd.ntmps51
          go_wp2
          go_ret
          exact ⟨by rw [HN.out]; rfl, HB.out⟩
        · have u := True.intro
          have HN := hid (show r = true by rw [hr]; simp [f0, p2, k0, k1])
          clear hr
          go_enter Tryd.func51, Tryd.ntmps51
          go_wp2
          go_ret
          exact ⟨by rw [HN.out]; rfl, HB.out⟩
      · have u := True.intro
        have HN := hid (show r = true by rw [hr]; simp [f0, p2, k0])
        clear hr
        go_enter Tryd.func51, Tryd.ntmps51
        go_wp2
        go_ret
        exact ⟨by rw [HN.out]; rfl, HB.out⟩
end Go.Proofs.YtppblibcbjpfnaaDoor.L
