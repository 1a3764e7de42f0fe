import Derived.Test.YtkagdmhijjfnnaaDoorPd9
namespace Go.Proofs.YtkagdmhijjfnnaaDoor
open Go.RowKit Bs
set_option linter.unusedVariables false
set_option maxRecDepth 100000 in
set_option maxHeartbeats 4000000 in
theorem drem_no (n : Int) (v : Value) (zs : List Int) (i : Int) (w : World) (h : OwnI w 0 v zs) (hu : Up zs) (hL : zs.length ≤ 65536) (hno : ¬ i ∈ zs) :
    Calls Tryd.prog 77 #[.agg #[.int .i64 n, v], .int .i64 i] w fun e w' => e = .returned (.tuple #[.agg #[.int .i64 n, v], .bool false]) ∧ Below w.heap.size w w' := by
  obtain ⟨a, cap, rfl, hcap, hnone, hsome⟩ := own_shape h
  have X0 := hid (Bp.new w n (.slice a zs.length cap))
  have HK := hid (fun W (hW : Below w.heap.size w W) => dbelow n a cap zs i W ((own_rd h).low hW (Nat.le_refl _)) hu hL)
  have HRD := hid (own_rd h)
  have HI := hid (has_iff hu i)
  have hle := bel_le zs i
  clear h hu hnone hsome
  obtain ⟨L, hLe⟩ : ∃ L, L = zs.length := ⟨_, rfl⟩
  have HL := hid hLe
  rw [← hLe] at hL HK X0 HI hle hcap ⊢
  clear hLe
  generalize bel zs i = k at *
  go_enter Tryd.func77, Tryd.ntmps77
  go_wp2_with fail
  generalize (w.alloc _).alloc _ = X at *
  refine (HK.out X X0.out.low).mono ?_
  rintro e w1 ⟨rfl, hb1⟩
  have X1 := hid (X0.out.on hb1)
  have u0 := X1.out.a0
  have u1 := X1.out.a1
  have r0 := X1.out.r0
  have r1 := X1.out.r1
  have f0 := X1.out.f0
  have f1 := X1.out.f1
  have XL := hid X1.out.low
  clear hb1 X0 HK
  by_cases hkL : k < L
  · rcases HRD.out.low X1.out.low (Nat.le_refl _) with c | ⟨b, off, rfl, _, hc⟩
    · have := HL.out; omega
    have hx := hc k (by rw [← HL.out]; exact hkL)
    have hne := hid (fun c => hno (HI.out.2 ⟨hkL, c⟩))
    clear hc HI HRD hno
    generalize zs.getD k 0 = z at hx hne
    have hz' : (z == i) = false := by simpa using hne.out
    have hz2 : (z != i) = true := by simpa using hne.out
    have hk4 : ¬ (L : Int) ≤ (k : Int) := by omega
    have hk5 : ¬ L ≤ k := by omega
    clear hne X1
    go_wp2_with fail
    refine bodyPost_ret (v := .tuple #[.agg #[.int .i64 n, .slice (some ⟨b, off, none⟩) L cap], .bool false]) ?_ rfl ⟨rfl, below_st (below_st XL.out _ _ _ (by omega)) _ _ _ (by omega)⟩
    rw [results_cell_tmp rfl]
    go_simp
  · have hk4 : (L : Int) ≤ (k : Int) := by omega
    have hk5 : L ≤ k := by omega
    clear HI HRD hno X1
    go_wp2_with fail
    refine bodyPost_ret (v := .tuple #[.agg #[.int .i64 n, .slice a L cap], .bool false]) ?_ rfl ⟨rfl, below_st (below_st XL.out _ _ _ (by omega)) _ _ _ (by omega)⟩
    rw [results_cell_tmp rfl]
    go_simp
set_option maxRecDepth 100000 in
set_option maxHeartbeats 4000000 in
theorem dgrow_no (n : Nat) (v : Value) (m : Int) (w : World) (c : Int) (a : Option Addr) (l cap : Nat) (hv : v = .slice a l cap) (h : (¬ (0 ≤ m ∧ m ≤ 65536) ∧ c = 11) ∨ (0 ≤ m ∧ m ≤ 65536 ∧ m < n ∧ c = 13)) :
    Calls Tryd.prog 78 #[.agg #[.int .i64 (n : Int), v], .int .i64 m] w fun e w' => e = .returned (.tuple #[.agg #[.int .i64 (n : Int), v], .int .i64 c]) ∧ Below w.heap.size w w' := by
  subst hv
  have X1 := Bp.new w n (.slice a l cap)
  have u0 := X1.a0
  have u1 := X1.a1
  have r0 := X1.r0
  have r1 := X1.r1
  have f0 := X1.f0
  have f1 := X1.f1
  clear X1
  go_enter Tryd.func78, Tryd.ntmps78
  rcases h with ⟨h, rfl⟩ | ⟨h0, h1, h2, rfl⟩
  · by_cases h0 : m < 0
    · clear h
      go_wp2_with fail
      refine bodyPost_ret (v := .tuple #[.agg #[.int .i64 (n : Int), .slice a l cap], .int .i64 11]) ?_ rfl ⟨rfl, (lowAlloc w _).alloc (by simp) _⟩
      rw [results_cell_tmp rfl]
      go_simp
    · have h1 : (65536 : Int) < m := by omega
      clear h
      go_wp2_with fail
      refine bodyPost_ret (v := .tuple #[.agg #[.int .i64 (n : Int), .slice a l cap], .int .i64 11]) ?_ rfl ⟨rfl, (lowAlloc w _).alloc (by simp) _⟩
      rw [results_cell_tmp rfl]
      go_simp
  · have h3 : ¬ m < 0 := by omega
    have h4 : ¬ (65536 : Int) < m := by omega
    go_wp2_with fail
    refine bodyPost_ret (v := .tuple #[.agg #[.int .i64 (n : Int), .slice a l cap], .int .i64 13]) ?_ rfl ⟨rfl, (lowAlloc w _).alloc (by simp) _⟩
    rw [results_cell_tmp rfl]
    go_simp
set_option maxRecDepth 100000 in
set_option maxHeartbeats 4000000 in
theorem dgrow_ok (n m : Nat) (v : Value) (zs : List Int) (w : World) (h : OwnI w 0 v zs) (hL : zs.length ≤ 65536) (hm : m ≤ 65536) (hnm : n ≤ m) :
    Calls Tryd.prog 78 #[.agg #[.int .i64 (n : Int), v], .int .i64 (m : Int)] w fun e w' => ∃ v', e = .returned (.tuple #[.agg #[.int .i64 (m : Int), v'], .int .i64 0]) ∧ OwnI w' w.heap.size v' zs ∧ Below w.heap.size w w' := by
  obtain ⟨a, l, cap, rfl⟩ := own_form9 h
  have X0 := hid (Bp.new w n (.slice a l cap))
  have HK := hid (fun W (hW : Below w.heap.size w W) => dmembers n (.slice a l cap) zs W (holds_of_owns (own_low h hW)) hL)
  clear h hL
  have h3 : ¬ (m : Int) < 0 := by omega
  have h4 : ¬ (65536 : Int) < (m : Int) := by omega
  have h5 : ¬ (m : Int) < (n : Int) := by omega
  have h6 : ¬ 65536 < m := by omega
  have h7 : ¬ m < n := by omega
  go_enter Tryd.func78, Tryd.ntmps78
  go_wp2_with fail
  generalize (w.alloc _).alloc _ = X at *
  refine (HK.out X X0.out.low).mono ?_
  rintro e w1 ⟨v1, rfl, o1, hb1⟩
  have X1 := X0.out.on hb1
  have r0 := X1.r0
  have r1 := X1.r1
  have f0 := X1.f0
  have f1 := X1.f1
  have XL := hid X1.low
  obtain ⟨av4, lv4, cv4, hv⟩ := own_form9 o1
  subst hv
  have O1 := hid (own_mono o1 (show w.heap.size ≤ X.heap.size by have := X0.out.lt; omega))
  have F1 := hid (own_far o1 X0.out.lt)
  clear X1 o1 hb1 X0 HK
  go_wp2_with fail
  refine bodyPost_ret (v := .tuple #[.agg #[.int .i64 (m : Int), .slice av4 lv4 cv4], .int .i64 0]) ?_ rfl ⟨_, rfl, own_set (own_set O1.out _ F1.out) _ F1.out, below_st (below_st XL.out _ _ _ (by omega)) _ _ _ (by omega)⟩
  rw [results_cell_tmp rfl]
  go_simp
end Go.Proofs.YtkagdmhijjfnnaaDoor
namespace Go.Proofs.YtkagdmhijjfnnaaDoor
open Go.RowKit Bs
set_option linter.unusedVariables false
theorem bps_oth {W : World} {s : Nat} {v u : Value} {na va : Value} (h : W.cell? ⟨s, 0, none⟩ = some na ∧ W.cell? ⟨s, 1, none⟩ = some va) :
    ((W.setCell ⟨s + 1, 0, none⟩ v).setCell ⟨s + 1, 1, none⟩ u).cell? ⟨s, 0, none⟩ = some na ∧ ((W.setCell ⟨s + 1, 0, none⟩ v).setCell ⟨s + 1, 1, none⟩ u).cell? ⟨s, 1, none⟩ = some va :=
  ⟨(cell_oth (by omega)).trans ((cell_oth (by omega)).trans h.1), (cell_oth (by omega)).trans ((cell_oth (by omega)).trans h.2)⟩
set_option maxRecDepth 100000 in
set_option maxHeartbeats 4000000 in
theorem dclone (n : Int) (v : Value) (zs : List Int) (w : World) (h : OwnI w 0 v zs) (hL : zs.length ≤ 65536) :
    Calls Tryd.prog 75 #[.agg #[.int .i64 n, v]] w fun e w' => ∃ v', e = .returned (.agg #[.int .i64 n, v']) ∧ OwnI w' w.heap.size v' zs ∧ Below w.heap.size w w' := by
  obtain ⟨a, l, cap, rfl⟩ := own_form9 h
  have X0 := hid (Bp.new w n (.slice a l cap))
  have HK := hid (fun W (hW : Below w.heap.size w W) => dmembers n (.slice a l cap) zs W (holds_of_owns (own_low h hW)) hL)
  clear h hL
  go_enter Tryd.func75, Tryd.ntmps75
  go_wp2_with fail
  generalize (w.alloc _).alloc _ = X at *
  have Y0 := hid (X0.out.on (belowDr X))
  have t0 := X0.out.a0
  have t1 := X0.out.a1
  go_region_held3 (fun Y => Y.cell? ⟨w.heap.size, 0, none⟩ = some (.int .i64 n) ∧ Y.cell? ⟨w.heap.size, 1, none⟩ = some (.slice a l cap))
    (first | exact ⟨t0, t1⟩ | exact T3 | exact bps_oth T3 | go_keep)
    (first
      | (go_at_call 97; refine (HK.out _ Y0.out.low).mono ?_; rintro e w3 ⟨v, rfl, ho, hb3⟩
         have Y3 := hid (Y0.out.on hb3)
         have T3 := And.intro Y3.out.a0 Y3.out.a1
         have r0 := Y3.out.r0
         have r1 := Y3.out.r1
         have f0 := Y3.out.f0
         have f1 := Y3.out.f1
         obtain ⟨av4, lv4, cv4, hv⟩ := own_form9 ho
         subst hv
         have O3 := hid (own_mono ho (show w.heap.size ≤ X.drew.heap.size by have := Y0.out.lt; omega))
         have F3 := hid (own_far ho Y0.out.lt)
         clear hb3 ho))
  go_wp2_with fail
  refine bodyPost_ret (v := .agg #[.int .i64 n, .slice av4 lv4 cv4]) ?_ rfl ⟨_, rfl, own_set (own_set O3.out _ F3.out) _ F3.out, below_st (below_st Y3.out.low _ _ _ (by omega)) _ _ _ (by omega)⟩
  rw [results_cell1 rfl]
  go_simp
set_option maxRecDepth 100000 in
set_option maxHeartbeats 4000000 in
theorem dorw (na nb : Nat) (va vb : Value) (A B : List Int) (w : World) (ha : OwnI w 0 va A) (hb : OwnI w 0 vb B) (hub : Up B) (hA : A.length ≤ 65536) (hB : B.length ≤ 65536) :
    Calls Tryd.prog 80 #[.agg #[.int .i64 (na : Int), va], .agg #[.int .i64 (nb : Int), vb]] w fun e w' => ∃ v, e = .returned (.agg #[.int .i64 (na : Int), v]) ∧ OwnI w' w.heap.size v (pk true true true A (B.take (bel B na))) ∧ Below w.heap.size w w' := by
  obtain ⟨a, ca, rfl, _⟩ := own_shape ha
  obtain ⟨b, cb, rfl, _⟩ := own_shape hb
  have HW := hid (fun W (h : Below w.heap.size w W) => dwithin nb _ B na W (own_low hb h) hub hB)
  have HK := hid (fun W (h : Below w.heap.size w W) r cr (hr : OwnI W 0 (.slice r (B.take (bel B na)).length cr) (B.take (bel B na))) => dpick true true true a r ca cr A (B.take (bel B na)) W ((own_rd ha).low h (Nat.le_refl _)) (own_rd hr) hA (by rw [List.length_take]; omega))
  have X0 := hid (Bq.new w (na : Int) (nb : Int) (.slice a A.length ca) (.slice b B.length cb))
  clear ha hb hA hB hub
  generalize B.take (bel B na) = C at *
  generalize A.length = la at *
  generalize B.length = lb at *
  go_enter Tryd.func80, Tryd.ntmps80
  go_wp2_with fail
  generalize ((w.alloc _).alloc _).alloc _ = X at *
  have t0 := X0.out.a0
  have t1 := X0.out.a1
  have t2 := X0.out.b0
  have t3 := X0.out.b1
  refine (HW.out X X0.out.low).mono ?_
  rintro e w2 ⟨v2, rfl, o2, hb2⟩
  have X2 := hid (X0.out.on hb2)
  obtain ⟨r, cr, hv⟩ := own_form o2
  subst hv
  have O2 := hid (own_mono o2 (Nat.zero_le _))
  have X3 := hid (X2.out.on (lowAlloc w2 (.cells #[.int .i64 (na : Int), .slice r C.length cr] 30)))
  have R0 : Hid ((w2.alloc (.cells #[.int .i64 (na : Int), .slice r C.length cr] 30)).heap[w2.heap.size]? = some (.cells #[.int .i64 (na : Int), .slice r C.length cr] 30)) := hid (heap_alloc_new w2 _)
  have O3 := hid (own_low O2.out (lowAlloc w2 (.cells #[.int .i64 (na : Int), .slice r C.length cr] 30)))
  have hR2 := hid (show w.heap.size + 1 + 1 < w2.heap.size from X2.out.lt)
  clear o2 hb2 t0 t1 t2 t3
  generalize hCl : C.length = lc at *
  go_wp2_with fail
  have hsz : Hid (w2.heap.size < (w2.alloc (.cells #[.int .i64 (na : Int), .slice r lc cr] 30)).heap.size) := hid (by simp)
  generalize w2.alloc (.cells #[.int .i64 (na : Int), .slice r lc cr] 30) = Z at *
  have t0 := X3.out.a0
  have t1 := X3.out.a1
  have t2 : Z.cell? ⟨w2.heap.size, 0, none⟩ = some (.int .i64 (na : Int)) := by rw [cell_of_row _ _ 0 _ _ _ R0.out]; rfl
  have t3 : Z.cell? ⟨w2.heap.size, 1, none⟩ = some (.slice r lc cr) := by rw [cell_of_row _ _ 1 _ _ _ R0.out]; rfl
  have Y0 := hid (X3.out.on (belowDr Z))
  have YO := hid (own_low O3.out (belowDr Z))
  go_region_held3 (fun Y => Y.cell? ⟨w.heap.size, 0, none⟩ = some (.int .i64 (na : Int)) ∧ Y.cell? ⟨w.heap.size, 1, none⟩ = some (.slice a la ca) ∧ Y.cell? ⟨w2.heap.size, 0, none⟩ = some (.int .i64 (na : Int)) ∧ Y.cell? ⟨w2.heap.size, 1, none⟩ = some (.slice r lc cr))
    (first | exact ⟨t0, t1, t2, t3⟩ | exact T3 | exact ⟨(cell_oth (by omega)).trans ((cell_oth (by omega)).trans T3.1), (cell_oth (by omega)).trans ((cell_oth (by omega)).trans T3.2.1), (cell_oth (by have := hR2.out; omega)).trans ((cell_oth (by have := hR2.out; omega)).trans T3.2.2.1), (cell_oth (by have := hR2.out; omega)).trans ((cell_oth (by have := hR2.out; omega)).trans T3.2.2.2)⟩ | go_keep)
    (first
      | (go_at_call 96; refine (HK.out _ Y0.out.low r cr YO.out).mono ?_; rintro e w3 ⟨v, rfl, ho, hb3⟩
         have Y3 := hid (Y0.out.on hb3)
         have T3 := And.intro Y3.out.a0 (And.intro Y3.out.a1 (And.intro ((hb3.cell (p := ⟨w2.heap.size, 0, none⟩) hsz.out).trans t2) ((hb3.cell (p := ⟨w2.heap.size, 1, none⟩) hsz.out).trans t3)))
         have r0 := Y3.out.r0
         have r1 := Y3.out.r1
         have f0 := Y3.out.f0
         have f1 := Y3.out.f1
         obtain ⟨av4, lv4, cv4, hv⟩ := own_form9 ho
         subst hv
         have O4 := hid (own_mono ho (show w.heap.size ≤ Z.drew.heap.size by have := Y0.out.lt; omega))
         have F4 := hid (own_far ho Y0.out.lt)
         clear hb3 ho))
  go_wp2_with fail
  refine bodyPost_ret (v := .agg #[.int .i64 (na : Int), .slice av4 lv4 cv4]) ?_ rfl ⟨_, rfl, own_set (own_set O4.out _ F4.out) _ F4.out, below_st (below_st Y3.out.low _ _ _ (by omega)) _ _ _ (by omega)⟩
  rw [results_cell1 rfl]
  go_simp
set_option maxRecDepth 100000 in
set_option maxHeartbeats 4000000 in
theorem dnew (n : Nat) (w : World) (hn : n ≤ 65536) :
    Calls Tryd.prog 65 #[.int .i64 (n : Int)] w fun e w' => e = .returned (.tuple #[.agg #[.int .i64 (n : Int), .slice none 0 0], .int .i64 0]) ∧ Below w.heap.size w w' := by
  have h1 : ¬ (n : Int) < 0 := by omega
  have h2 : ¬ (65536 : Int) < (n : Int) := by omega
  have h3 : ¬ 65536 < n := by omega
  go_enter Tryd.func65, Tryd.ntmps65
  go_wp2_with fail
  refine bodyPost_ret (v := .tuple #[.agg #[.int .i64 (n : Int), .slice none 0 0], .int .i64 0]) ?_ rfl ⟨rfl, lowAlloc w _⟩
  rw [results_cell_tmp rfl]
  go_simp
set_option maxRecDepth 100000 in
set_option maxHeartbeats 4000000 in
theorem dnew_no (n : Int) (w : World) (hn : ¬ (0 ≤ n ∧ n ≤ 65536)) :
    Calls Tryd.prog 65 #[.int .i64 n] w fun e w' => e = .returned (.tuple #[.agg #[.int .i64 0, .slice none 0 0], .int .i64 11]) ∧ Below w.heap.size w w' := by
  go_enter Tryd.func65, Tryd.ntmps65
  by_cases h1 : n < 0
  · clear hn
    go_wp2_with fail
    refine bodyPost_ret (v := .tuple #[.agg #[.int .i64 0, .slice none 0 0], .int .i64 11]) ?_ rfl ⟨rfl, lowAlloc w _⟩
    rw [results_cell_tmp rfl]
    go_simp
  · have h2 : (65536 : Int) < n := by omega
    clear hn
    go_wp2_with fail
    refine bodyPost_ret (v := .tuple #[.agg #[.int .i64 0, .slice none 0 0], .int .i64 11]) ?_ rfl ⟨rfl, lowAlloc w _⟩
    rw [results_cell_tmp rfl]
    go_simp
end Go.Proofs.YtkagdmhijjfnnaaDoor
