import Derived.Test.YtbplmglddinkdaaDoorXF
namespace Go.Proofs.YtbplmglddinkdaaDoor.L
open Go.RowKit Go.Shelf
set_option linter.unusedVariables false
theorem bt_head (t : ByteArray) (l : List UInt8) (h : t.data.toList = l) (c : UInt8) (hc : c ≠ 0) : (bt t 0 == c) = decide (l.head? = some c) := by
  unfold bt
  rw [h]
  cases l with
  | nil => simp; exact fun e => hc e.symm
  | cons x r =>
    show (x == c) = _
    cases e : (x == c)
    · exact (decide_eq_false (by simpa using e)).symm
    · exact (decide_eq_true (by simpa using e)).symm
set_option maxHeartbeats 4000000 in
theorem number_any (t : ByteArray) (w : World) (hs : t.size ≤ 4096) (h43 : bt t 0 ≠ 43) (h0 : t.size ≠ 0) (hd : dgs t ≠ []) (hv : Vars w) :
    Calls Tryd.prog 61 #[.string t] w fun e w' => NumIs (numS t) w e w' := by
  have HC := hid (fun W => scutp_any t W hs)
  have HH := hid (fun W => shasp_any (dgT t) 48 W (Nat.le_trans (dgT_size t) hs) (by decide))
  rw [bt_head (dgT t) (dgs t) (dgT_list t) 48 (by decide)] at HH
  have hl : (dgT t).toList = dgs t := by rw [ByteArray.toList_eq, dgT_list]
  have hz : (dgT t).size = (dgs t).length := by rw [← dgT_list]; simp
  have AN := hid (atoi_num t h0 h43 hd)
  have AO := hid (fun (n : Int) (h : Lib.atoiAll t.data.toList = .ok n) (W : World) => atoi_ok t hs n h W)
  have AB := hid (fun (h : ∀ n, Lib.atoiAll t.data.toList ≠ .ok n) => atoi_bad t hs h w hv)
  obtain ⟨R, hR⟩ : ∃ R, numS t = R := ⟨_, rfl⟩
  rw [hR]
  unfold numS at hR
  generalize dgT t = D at *
  generalize dgs t = L at *
  clear h43
  by_cases c1 : L = [48]
  · rw [if_pos c1] at hR
    subst c1
    have e1 : (([48] : List UInt8) == [48]) = true := by decide
    by_cases c45 : bt t 0 = 45
    · rw [if_pos c45] at hR
      rw [show (bt t 0 == 45) = true by simpa using c45] at HC
      subst hR
      go_enter Tryd.func61, Tryd.ntmps61
      go_wp2_with (go_at_call 69; refine (HC.out _).mono ?_; rintro e w1 ⟨rfl, hww⟩; have hw2 := hww.symm; clear hww; subst hw2)
      go_ret2
      exact ⟨_, rfl, Below.refl _ _⟩
    · rw [if_neg c45] at hR
      rw [show (bt t 0 == 45) = false by simpa using c45] at HC
      subst hR
      go_enter Tryd.func61, Tryd.ntmps61
      go_wp2_with (go_at_call 69; refine (HC.out _).mono ?_; rintro e w1 ⟨rfl, hww⟩; have hw2 := hww.symm; clear hww; subst hw2)
      go_ret2
      exact ⟨rfl, Below.refl _ _⟩
  · rw [if_neg c1] at hR
    generalize (bt t 0 == 45) = m at *
    have e1 : (L == [48]) = false := by simpa using c1
    have e1' : ([48] == L) = false := by simpa using fun e : [48] = L => c1 e.symm
    by_cases c2 : 18 < L.length
    · rw [if_pos (Or.inl c2)] at hR
      subst hR
      have c2' : (18 : Int) < L.length := by omega
      go_enter Tryd.func61, Tryd.ntmps61
      go_wp2_with (go_at_call 69; refine (HC.out _).mono ?_; rintro e w1 ⟨rfl, hww⟩; have hw2 := hww.symm; clear hww; subst hw2)
      go_ret2
      exact ⟨_, rfl, Below.refl _ _⟩
    · have c2' : ¬ (18 : Int) < L.length := by omega
      by_cases c3 : L.head? = some 48
      · rw [if_pos (Or.inr (Or.inl c3))] at hR
        subst hR
        rw [decide_eq_true c3] at HH
        go_enter Tryd.func61, Tryd.ntmps61
        go_wp2_with (first | (go_at_call 69; refine (HC.out _).mono ?_; rintro e w1 ⟨rfl, hww⟩; have hw2 := hww.symm; clear hww; subst hw2) | (go_at_call 70; refine (HH.out _).mono ?_; rintro e w1 ⟨rfl, hww⟩; have hw2 := hww.symm; clear hww; subst hw2))
        go_ret2
        exact ⟨_, rfl, Below.refl _ _⟩
      · rw [decide_eq_false c3] at HH
        have AN2 := hid (AN.out (by omega))
        cases c4 : allD L
        · rw [if_pos (Or.inr (Or.inr (Or.inr c4)))] at hR
          subst hR
          have HA := hid (AB.out (AN2.out.2 c4))
          clear AN AN2 AO AB
          go_enter Tryd.func61, Tryd.ntmps61
          go_wp2_with (first | (go_at_call 69; refine (HC.out _).mono ?_; rintro e w1 ⟨rfl, hww⟩; have hw2 := hww.symm; clear hww; subst hw2) | (go_at_call 70; refine (HH.out _).mono ?_; rintro e w1 ⟨rfl, hww⟩; have hw2 := hww.symm; clear hww; subst hw2) | (go_at_call 71; refine HA.out.mono ?_; rintro e w1 ⟨n, ty, N, rfl, l1⟩; have L1 := hid l1; clear l1))
          go_quiet (fail)
          go_wp2
          go_ret2
          exact ⟨_, rfl, below_drewN L1.out _⟩
        · rw [if_neg (by rw [c4]; simp [hd, c3]; omega)] at hR
          subst hR
          have HA := hid (fun W => AO.out _ (AN2.out.1 c4) W)
          clear AN AN2 AO AB
          generalize (if bt t 0 = 45 then -(valF 0 L : Int) else (valF 0 L : Int)) = n at *
          go_enter Tryd.func61, Tryd.ntmps61
          go_wp2_with (first | (go_at_call 69; refine (HC.out _).mono ?_; rintro e w1 ⟨rfl, hww⟩; have hw2 := hww.symm; clear hww; subst hw2) | (go_at_call 70; refine (HH.out _).mono ?_; rintro e w1 ⟨rfl, hww⟩; have hw2 := hww.symm; clear hww; subst hw2) | (go_at_call 71; refine (HA.out _).mono ?_; rintro e w1 ⟨rfl, l1⟩; have L1 := hid l1; clear l1))
          go_quiet (fail)
          go_wp2
          go_ret2
          exact ⟨rfl, below_drewN L1.out _⟩
end Go.Proofs.YtbplmglddinkdaaDoor.L
