import Derived.Test.YtfbagkajbnomoaaQ15
namespace Go.Proofs.Ytfbagkajbnomoaa.L
open Go.RowKit Rg Qu
set_option linter.unusedVariables false
set_option linter.unusedSimpArgs false
def wkA : ByteArray := ⟨#[97]⟩
def wk1 : Wt := ⟨wkA, 3, 0, 0, 0, false⟩
theorem wk_psh : pshE [] 0 wkA = 0 ∧ pshL [] 0 wkA 3 = [wk1] ∧ pshN [] 0 wkA = 1 := by
  unfold pshL pshN
  have e : pshE [] 0 wkA = 0 := by unfold pshE; simp [fnd]
  rw [e]
  exact ⟨rfl, rfl, rfl⟩
theorem wk_rdy : rdyN [wk1] 0 = wkA ∧ rdyK [wk1] 0 = true := by
  unfold rdyN rdyK
  have e : rdy [wk1] 0 = some wk1 := rdy_at (k := 0) (by omega) (by omega) (by decide) (by decide) (fun j hj => absurd hj (Nat.not_lt_zero j))
  rw [e]
  exact ⟨rfl, rfl⟩
set_option maxHeartbeats 4000000 in
set_option maxRecDepth 100000 in
theorem awake_any (w : World) : Calls Try.prog 9 #[] w fun e w' => e = .returned (.bool true) ∧ Below w.heap.size w w' := by
  have HW := hid (new_any w)
  go_enter Try.func9, Try.ntmps9
  go_wp2_with fail
  refine HW.out.mono ?_
  rintro e w1 ⟨rfl, m1, b1⟩
  have HP := hid (push_any m1 okq_nil wkA 3 b1.size)
  rw [wk_psh.1, wk_psh.2.1, wk_psh.2.2] at HP
  have HB1 := hid b1
  obtain ⟨qb, hqb⟩ : ∃ b, b = w.heap.size := ⟨_, rfl⟩
  rw [← hqb] at HP ⊢
  have HQB := hid hqb
  have HM1 := hid m1
  clear m1 b1 HW hqb
  unfold wkA at HP
  go_wp2_with fail
  refine HP.out.mono ?_
  rintro e w2 ⟨rfl, v2, m2, f2, n2⟩
  have HB2 := hid (show Below w.heap.size w w2 from by
    have := f2.below HB1.out (by rw [HQB.out]; exact HM1.out)
    exact this)
  have HR := hid (readyq_any m2 (by decide) 0)
  rw [wk_rdy.1, wk_rdy.2] at HR
  have HL := hid (list_any m2 (by decide))
  have HM2 := hid m2
  clear m2 f2 n2 HP
  unfold wkA at HR
  go_wp2_with fail
  refine (num_any 0 w2).mono ?_
  rintro e w3 ⟨rfl, rfl⟩
  go_wp2_with fail
  refine HR.out.mono ?_
  rintro e w4 ⟨rfl, b4⟩
  have HM4 := hid (HM2.out.low b4)
  have HL4 := hid (list_any HM4.out (by decide))
  have HB4 := hid (bch HB2.out b4)
  clear b4 HR HL HB2 HM2
  go_wp2_with fail
  refine HL4.out.mono ?_
  rintro e w5 ⟨v5, rfl, o5, b5⟩
  obtain ⟨_, a5, c5, rfl, r5⟩ := own_w o5
  obtain ⟨g, off, rfl, hgb, d0, d1, d2, d3, d4, d5⟩ := cell_w r5 (k := 0) (by decide)
  have d1' : w5.cell? ⟨g, off + 1, none⟩ = some (.int .i64 3) := by
    rw [Nat.zero_mul, Nat.add_zero] at d1
    exact d1
  have hln : ([wk1] : List Wt).length = 1 := rfl
  have HN := hid (next_any (HM4.out.low b5))
  have HB5 := hid (bch HB4.out b5)
  rw [hln]
  clear d0 d1 d2 d3 d4 d5 hgb r5 o5 b5 HL4
  go_wp2_with fail
  refine HN.out.mono ?_
  rintro e w6 ⟨rfl, rfl⟩
  go_wp2_with fail
  go_ret
  exact ⟨by first | rfl | simp, HB5.out⟩
end Go.Proofs.Ytfbagkajbnomoaa.L
