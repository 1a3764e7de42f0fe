import Derived.Test.YtkagdmhijjfnnabDoorIt3
namespace Go.Proofs.YtkagdmhijjfnnabDoor
open Go.RowKit Bs
set_option linter.unusedVariables false
theorem Ints.row {w : World} {v : Value} {zs : List Int} (h : Ints w v zs) : ∃ a cap, v = .slice a zs.length cap ∧ (0 < zs.length → ∃ b off, a = some ⟨b, off, none⟩ ∧ ∀ j, j < zs.length → w.cell? ⟨b, off + j, none⟩ = some (.int .i64 (zs.getD j 0))) := by
  rcases h with ⟨a, cap, rfl, rfl⟩ | ⟨b, off, cap, rfl, hb, hc⟩
  · exact ⟨a, cap, rfl, fun h => absurd h (by decide)⟩
  · exact ⟨_, cap, rfl, fun _ => ⟨b, off, rfl, hc⟩⟩
theorem andwith_z {p q n : Nat} {S : Nat → Bool} (w : World) (h : SetAt w p q n S) : Calls Tryd.prog 18 #[.pointer none, .pointer (some ⟨p, 0, none⟩)] w fun e w' => e = .returned (.tuple #[]) ∧ w' = w := by
  obtain ⟨ws, x, _⟩ := h
  exact andwith_nill p q n ws w x
theorem orwith_z {p q n : Nat} {S : Nat → Bool} (w : World) (h : SetAt w p q n S) : Calls Tryd.prog 19 #[.pointer none, .pointer (some ⟨p, 0, none⟩)] w fun e w' => e = .returned (.tuple #[]) ∧ w' = w := by
  obtain ⟨ws, x, _⟩ := h
  exact orwith_nill p q n ws w x
theorem andnotwith_z {p q n : Nat} {S : Nat → Bool} (w : World) (h : SetAt w p q n S) : Calls Tryd.prog 20 #[.pointer none, .pointer (some ⟨p, 0, none⟩)] w fun e w' => e = .returned (.tuple #[]) ∧ w' = w := by
  obtain ⟨ws, x, _⟩ := h
  exact andnotwith_nill p q n ws w x
theorem nilO (w : World) (q : Nat) : SO w (.pointer none) q 0 (fun _ => false) := Or.inl ⟨rfl, rfl, fun _ => rfl⟩
theorem count_zero {p q n : Nat} (w : World) (h : SetAt w p q n (fun _ => false)) : Calls Tryd.prog 22 #[.pointer (some ⟨p, 0, none⟩)] w fun e w' => e = .returned (.int .i64 0) ∧ w' = w := by
  have := count_set w h
  rwa [(card_zero_iff (n := n) (S := fun _ => false)).2 (fun _ _ => rfl)] at this
theorem card_zero_iff' {w : World} {p q n : Nat} {S : Nat → Bool} (h : SetAt w p q n S) : card n S = 0 ↔ ∀ i, S i = false := by
  rw [card_zero_iff]
  constructor
  · intro k i
    by_cases hi : i < n
    · exact k i hi
    · exact h.cl i (by omega)
  · intro k i _
    exact k i
set_option maxHeartbeats 1000000 in
theorem meets_nilr {p q n : Nat} {S : Nat → Bool} (w : World) (h : SetAt w p q n S) : Calls Tryd.prog 35 #[.pointer (some ⟨p, 0, none⟩), .pointer none] w fun e w' => e = .returned (.bool false) ∧ w' = w := by
  obtain ⟨ws, x, _⟩ := h
  have hc1 := x.c1
  have hle := x.len
  obtain ⟨M, hM⟩ : ∃ M, M = 0 := ⟨_, rfl⟩
  have hmin : min (ws.length : Int) 0 = (M : Int) := by omega
  have HM := hid hM
  clear x hM
  go_enter Tryd.func35, Tryd.ntmps35
  go_wp2_with (first | (go_at_call_of 51 p; refine (list_cell p _ _ _ _ hc1).mono ?_; rintro e w' ⟨rfl, rfl⟩) | (go_at_call 51; refine (list_nil _).mono ?_; rintro e w' ⟨rfl, rfl⟩))
  go_loopw [17] (fun i wr => i = .int .i64 0 ∧ wr = w') (fun _ _ => 0)
  case atStart => exact ⟨rfl, rfl⟩
  case round =>
    obtain ⟨rfl, rfl⟩ := hrel
    have := HM.out
    subst this
    go_wp2
    go_ret
    exact ⟨rfl, rfl⟩
theorem all_six (w : World) (a b c d e f : Addr) : Calls Tryd.prog 32 #[.slice (some ⟨w.heap.size, 0, none⟩) 6 6] (w.alloc (.cells #[.pointer (some a), .pointer (some b), .pointer (some c), .pointer (some d), .pointer (some e), .pointer (some f)] 27)).drew fun r w' => r = .returned (.bool true) ∧ w' = (w.alloc (.cells #[.pointer (some a), .pointer (some b), .pointer (some c), .pointer (some d), .pointer (some e), .pointer (some f)] 27)).drew := by
  refine all_any w.heap.size 6 6 (fun j => match j with | 0 => a | 1 => b | 2 => c | 3 => d | 4 => e | _ => f) _ (by decide) ?_
  intro j hj
  show (w.alloc _).cell? _ = _
  match j, hj with
  | 0, _ => simp
  | 1, _ => simp
  | 2, _ => simp
  | 3, _ => simp
  | 4, _ => simp
  | 5, _ => simp
set_option maxRecDepth 100000 in
set_option maxHeartbeats 4000000 in
theorem nil_law (n : Nat) (vA vB vC : Value) (zA zB : List Int) (w : World) (ht : Tab w) (hn : n ≤ 65536) (iA : Ints w vA zA) (iB : Ints w vB zB) (rA : zA.length * 8 ≤ 140737488351232) (rB : zB.length * 8 ≤ 140737488351232) :
    Calls Tryd.prog 3 #[.agg #[.int .i64 n, vA, vB, vC]] w fun e w' => e = .returned (.bool true) ∧ Below w.heap.size w w' := by
  have HT := hid ht
  have HA := hid iA
  have HBB := hid iB
  have hn0 : 0 ≤ (n : Int) := by omega
  have hn1 : (n : Int) ≤ 65536 := by omega
  have HRA := hid rA
  have HRB := hid rB
  clear ht iA rA iB rB
  go_enter Tryd.func3, Tryd.ntmps3
  go_wp2_with fail
  refine (begin_all n vA vB vC w HT.out).mono ?_
  rintro e w1 ⟨rfl, hx, hb1, hs1⟩
  have hx0 := hx.c0
  have hx1 := hx.c1
  have X1 := hid hx
  have B1 := hid hb1
  clear hx hb1
  go_wp2_with fail
  refine (sized_yes _ _ hn0 hn1).mono ?_
  rintro e w2 ⟨rfl, hww⟩
  subst hww
  go_wp2_with fail
  refine (of_new n vA zA _ hn HRA.out (HA.out.low B1.out)).mono ?_
  rintro e w3 ⟨pa, qa, rfl, f3⟩
  have S3 := hid f3.at'
  have X3 := hid (X1.out.low f3.low)
  have B3 := hid (belowT B1.out f3.low)
  have Q3 := hid (Nat.le_trans B1.out.size f3.hq)
  have hq3 := Nat.le_trans hs1 f3.hq
  have Z3 := hid hq3
  clear f3 X1 B1 hx0 hx1 hs1 hq3
  go_wp2_with fail
  obtain ⟨aB, capB, eB, hrow⟩ := HBB.out.row
  subst eB
  obtain ⟨L, hL⟩ : ∃ L, L = zB.length := ⟨_, rfl⟩
  have HL := hid hL
  have HROW := hid hrow
  have HX2 := hid (fun W (k : Like w3 W) => (k.cell ⟨w.heap.size, 2, none⟩).trans X3.out.c2)
  have hLb : (L : Int) ≤ 140737488351232 := by have := HRB.out; omega
  rw [← hL] at HX2 ⊢
  clear hL hrow
  go_loopw [5] (fun i wr => ∃ k : Nat, k ≤ L ∧ i = .int .i64 k ∧ Like w3 wr) (fun i _ => L - (intOf i).toNat)
  case atStart => exact ⟨0, Nat.zero_le _, rfl, Like.refl _⟩
  case round =>
    obtain ⟨k, hk, rfl, hlike⟩ := hrel
    have LK := hid hlike
    have hx2 := HX2.out wr hlike
    clear hlike
    by_cases hlt : k < L
    · have hk2 : k < zB.length := by rw [← HL.out]; exact hlt
      obtain ⟨b, off, rfl, hc⟩ := HROW.out (by omega)
      have hcz := (LK.out.cell ⟨b, off + k, none⟩).trans ((B3.out.cell (p := ⟨b, off + k, none⟩) (block_lt_of_cell (hc k hk2))).trans (hc k hk2))
      generalize zB.getD k 0 = z at hcz
      have hkL : (k : Int) < (L : Int) := by omega
      clear hc hk2
      go_wp2_with fail
      refine (has_nil z _).mono ?_
      rintro e u1 ⟨rfl, m1, hww⟩
      have L1 : Hid (Like w3 u1) := by rw [hww]; exact LK.out.drewN _
      clear hww
      go_wp2_with fail
      refine (next_nil z _).mono ?_
      rintro e u_next ⟨rfl, hww⟩
      subst hww
      go_wp2_with fail
      refine (prev_nil z _).mono ?_
      rintro e u_prev ⟨rfl, hww⟩
      subst hww
      go_wp2_with fail
      refine (rank_nil z _).mono ?_
      rintro e u_rank ⟨rfl, hww⟩
      subst hww
      go_wp2_with fail
      refine (select_nil z _).mono ?_
      rintro e u_select ⟨rfl, hww⟩
      subst hww
      go_wp2_with fail
      refine (add_nil z _).mono ?_
      rintro e u_add ⟨rfl, hww⟩
      subst hww
      go_wp2_with fail
      refine (remove_nil z _).mono ?_
      rintro e u2w ⟨rfl, m2, hww⟩
      have L2 : Hid (Like w3 u2w) := by rw [hww]; exact L1.out.drewN _
      clear hww L1
      go_wp2_with fail
      refine (grow_nil z _).mono ?_
      rintro e u3w ⟨rfl, hww⟩
      subst hww
      go_wp2_with fail
      refine (num_any 1 _).mono ?_
      rintro e u4w ⟨rfl, hww⟩
      subst hww
      go_wp2_with fail
      exact ⟨⟨k + 1, by omega, by go_num, L2.out⟩, by simp [intOf]; omega⟩
    · obtain rfl : k = L := by omega
      have HS := hid (S3.out.low LK.out.low)
      have HX := hid (X3.out.low LK.out.low)
      have HB := hid (belowT B3.out LK.out.low)
      have HTT := hid (HT.out.low HB.out HT.out.pos)
      clear S3 X3 LK HX2 HROW HBB
      go_wp2_with fail
      refine (andwith_z _ HS.out).mono ?_
      rintro e u_andwith ⟨rfl, hww⟩
      subst hww
      go_wp2_with fail
      refine (orwith_z _ HS.out).mono ?_
      rintro e u_orwith ⟨rfl, hww⟩
      subst hww
      go_wp2_with fail
      refine (andnotwith_z _ HS.out).mono ?_
      rintro e u_andnotwith ⟨rfl, hww⟩
      subst hww
      go_wp2_with fail
      refine (size_nil _).mono ?_
      rintro e u_s ⟨rfl, hww⟩
      subst hww
      go_wp2_with fail
      refine (count_nil _).mono ?_
      rintro e u_c ⟨rfl, hww⟩
      subst hww
      go_wp2_with fail
      refine (members_nil _).mono ?_
      rintro e y1 ⟨vm, rfl, ⟨am, cm, rfl, _⟩, h1⟩
      have HS1 := hid (HS.out.low h1)
      have HX1 := hid (HX.out.low h1)
      have HB1 := hid (belowT HB.out h1)
      have HT1 := hid (HTT.out.low h1 HTT.out.pos)
      clear h1 HS HX HB HTT
      simp only [List.length_nil]
      go_wp2_with fail
      refine (words_nil _).mono ?_
      rintro e y2 ⟨vw, rfl, rfl, _, h1⟩
      have HS2 := hid (HS1.out.low h1)
      have HX2 := hid (HX1.out.low h1)
      have HB2 := hid (belowT HB1.out h1)
      have HT2 := hid (HT1.out.low h1 HT1.out.pos)
      clear h1 HS1 HX1 HB1 HT1
      go_wp2_with fail
      refine (walk_nil 1 _ HT2.out).mono ?_
      rintro e y3 ⟨rfl, h1⟩
      have HS3 := hid (HS2.out.low h1)
      have HX3 := hid (HX2.out.low h1)
      have HB3 := hid (belowT HB2.out h1)
      have HT3 := hid (HT2.out.low h1 HT2.out.pos)
      clear h1 HS2 HX2 HB2 HT2
      go_wp2_with fail
      refine (clone_o _ (nilO _ 0)).mono ?_
      rintro e y4 ⟨pc, qc, rfl, fc⟩
      have HS4 := hid (HS3.out.low fc.low)
      have HX4 := hid (HX3.out.low fc.low)
      have HB4 := hid (belowT HB3.out fc.low)
      have HC4 := hid fc.at'
      clear fc HS3 HX3 HB3 HT3
      go_wp2_with fail
      refine (and_o _ HS4.out.so (nilO _ 0)).mono ?_
      rintro e y5 ⟨pD, qD, rfl, fD⟩
      have HC5 := hid (HC4.out.low fD.low)
      have HS5 := hid (HS4.out.low fD.low)
      have HX5 := hid (HX4.out.low fD.low)
      have HB5 := hid (belowT HB4.out fD.low)
      have HD5 := hid fD.at'
      have GD := hid (Nat.le_trans HS4.out.qlt fD.hq)
      clear fD HC4 HS4 HX4 HB4
      go_wp2_with fail
      refine (or_o _ (nilO _ 0) HS5.out.so).mono ?_
      rintro e y6 ⟨pO, qO, rfl, fO⟩
      have HC6 := hid (HC5.out.low fO.low)
      have HD6 := hid (HD5.out.low fO.low)
      have HS6 := hid (HS5.out.low fO.low)
      have HX6 := hid (HX5.out.low fO.low)
      have HB6 := hid (belowT HB5.out fO.low)
      have HO6 := hid fO.at'
      have GO := hid (Nat.le_trans HS5.out.qlt fO.hq)
      clear fO HC5 HD5 HS5 HX5 HB5
      go_wp2_with fail
      refine (andnot_o _ HS6.out.so (nilO _ 0)).mono ?_
      rintro e y7 ⟨pE, qE, rfl, fE⟩
      have HC7 := hid (HC6.out.low fE.low)
      have HD7 := hid (HD6.out.low fE.low)
      have HO7 := hid (HO6.out.low fE.low)
      have HS7 := hid (HS6.out.low fE.low)
      have HX7 := hid (HX6.out.low fE.low)
      have HB7 := hid (belowT HB6.out fE.low)
      have HE7 := hid fE.at'
      have GE := hid (Nat.le_trans HS6.out.qlt fE.hq)
      clear fE HC6 HD6 HO6 HS6 HX6 HB6
      go_wp2_with fail
      refine (xor_o _ (nilO _ 0) HS7.out.so).mono ?_
      rintro e y8 ⟨pY, qY, rfl, fY⟩
      have HC8 := hid (HC7.out.low fY.low)
      have HD8 := hid (HD7.out.low fY.low)
      have HO8 := hid (HO7.out.low fY.low)
      have HE8 := hid (HE7.out.low fY.low)
      have HS8 := hid (HS7.out.low fY.low)
      have HX8 := hid (HX7.out.low fY.low)
      have HB8 := hid (belowT HB7.out fY.low)
      have HY8 := hid fY.at'
      have GY := hid (Nat.le_trans HS7.out.qlt fY.hq)
      clear fY HC7 HD7 HO7 HE7 HS7 HX7 HB7
      go_wp2_with fail
      refine (not_o _ HS8.out.so (nilO _ 0)).mono ?_
      rintro e y9 ⟨pN, qN, rfl, fN⟩
      have HC9 := hid (HC8.out.low fN.low)
      have HD9 := hid (HD8.out.low fN.low)
      have HO9 := hid (HO8.out.low fN.low)
      have HE9 := hid (HE8.out.low fN.low)
      have HY9 := hid (HY8.out.low fN.low)
      have HS9 := hid (HS8.out.low fN.low)
      have HX9 := hid (HX8.out.low fN.low)
      have HB9 := hid (belowT HB8.out fN.low)
      have HN9 := hid fN.at'
      have GN := hid (Nat.le_trans HS8.out.qlt fN.hq)
      clear fN HC8 HD8 HO8 HE8 HY8 HS8 HX8 HB8
      have hx0 := HX9.out.c0
      have LB := hid ((lowAlloc y9 (.cells #[.pointer (some ⟨pc, 0, none⟩), .pointer (some ⟨pD, 0, none⟩), .pointer (some ⟨pO, 0, none⟩), .pointer (some ⟨pE, 0, none⟩), .pointer (some ⟨pY, 0, none⟩), .pointer (some ⟨pN, 0, none⟩)] 27)).drew)
      have TC := hid (HC9.out.low LB.out)
      have TD := hid (HD9.out.low LB.out)
      have TO := hid (HO9.out.low LB.out)
      have TE := hid (HE9.out.low LB.out)
      have TY := hid (HY9.out.low LB.out)
      have TN := hid (HN9.out.low LB.out)
      have TS := hid (HS9.out.low LB.out)
      have TX := hid (HX9.out.low LB.out)
      have TB := hid (belowT HB9.out LB.out)
      have xc0 := TX.out.c0
      have tO : Hid (SetAt _ pO qO n (sOf n zA)) := hid (by have h := TO.out.turn (T := sOf n zA) (fun i => by simp); rwa [Nat.zero_max] at h)
      have tE : Hid (SetAt _ pE qE n (sOf n zA)) := hid (by have h := TE.out.turn (T := sOf n zA) (fun i => by simp); rwa [Nat.max_zero] at h)
      have tY : Hid (SetAt _ pY qY n (sOf n zA)) := hid (by have h := TY.out.turn (T := sOf n zA) (fun i => by simp); rwa [Nat.zero_max] at h)
      have tD : Hid (SetAt _ pD qD n (fun _ => false)) := hid (by have h := TD.out.turn (T := fun _ => false) (fun i => by simp); rwa [Nat.max_zero] at h)
      clear HC9 HD9 HO9 HE9 HY9 HN9 HS9 HX9 HB9 TO TE TY TD
      go_wp2_with fail
      go_region_held3 (fun W => W.cell? ⟨w.heap.size, 0, none⟩ = some (.int .i64 n))
        (first | exact hx0 | exact xc0)
        (first
          | (go_at_call 32; refine (all_six _ _ _ _ _ _ _).mono ?_; rintro e t0 ⟨rfl, hww⟩; subst hww)
          | (go_at_call_of 21 pc; refine (size_any _ TC.out).mono ?_; rintro e t1 ⟨rfl, hw1⟩; subst hw1)
          | (go_at_call_of 21 pN; refine (size_any _ TN.out).mono ?_; rintro e t2 ⟨rfl, hw1⟩; subst hw1)
          | (go_at_call_of 21 pD; refine (size_any _ tD.out).mono ?_; rintro e t3 ⟨rfl, hw1⟩; subst hw1)
          | (go_at_call_of 21 pO; refine (size_any _ tO.out).mono ?_; rintro e t4 ⟨rfl, hw1⟩; subst hw1))
      generalize (y9.alloc (.cells #[.pointer (some ⟨pc, 0, none⟩), .pointer (some ⟨pD, 0, none⟩), .pointer (some ⟨pO, 0, none⟩), .pointer (some ⟨pE, 0, none⟩), .pointer (some ⟨pY, 0, none⟩), .pointer (some ⟨pN, 0, none⟩)] 27)).drew = t at *
      clear LB hx0 xc0 TX TC TN
      go_wp2_with fail
      refine (equal_o true _ tO.out.so TS.out.so (by simp)).mono ?_
      rintro e t1 ⟨rfl, hww⟩
      subst hww
      go_wp2_with fail
      refine (equal_o true _ tE.out.so TS.out.so (by simp)).mono ?_
      rintro e t2 ⟨rfl, hww⟩
      subst hww
      go_wp2_with fail
      refine (equal_o true _ tY.out.so TS.out.so (by simp)).mono ?_
      rintro e t3 ⟨rfl, hww⟩
      subst hww
      go_wp2_with fail
      refine (count_zero _ tD.out).mono ?_
      rintro e t4 ⟨rfl, hww⟩
      subst hww
      go_wp2_with fail
      refine (not_o _ (nilO _ 0) TS.out.so).mono ?_
      rintro e t5 ⟨pM, qM, rfl, fM⟩
      have tM : Hid (SetAt t5 pM qM n (sOf n zA)) := hid (fM.at'.turn (fun i => by simp))
      have S5 := hid (TS.out.low fM.low)
      have O5 := hid (tO.out.low fM.low)
      have B5 := hid (belowT TB.out fM.low)
      clear fM TS tO tE tY tD TB GE GY GD GN
      go_wp2_with fail
      refine (equal_o true _ tM.out.so S5.out.so (by simp)).mono ?_
      rintro e t6 ⟨rfl, hww⟩
      subst hww
      clear tM
      go_wp2_with fail
      refine (andnotwith_o _ S5.out (nilO _ (qa + 1)) (Or.inl (by omega))).mono ?_
      rintro e t7 ⟨rfl, hs7, hg7⟩
      have S7 : Hid (SetAt t7 pa qa n (sOf n zA)) := hid (hs7.turn (fun i => by simp))
      have O7 := hid (O5.out.keep hg7 (O5.out.pne S5.out) (by have := GO.out; omega))
      have B7 := hid (Chg.below B5.out hg7 Q3.out B5.out.size)
      clear hs7 hg7 S5 O5 B5
      go_wp2_with fail
      refine (orwith_o _ S7.out (nilO _ (qa + 1)) (Or.inl (by omega))).mono ?_
      rintro e t8 ⟨rfl, hs8, hg8⟩
      have S8 : Hid (SetAt t8 pa qa n (sOf n zA)) := hid (hs8.turn (fun i => by
        cases h : sOf n zA i
        · simp
        · have := S7.out.bound i h
          simp [this]))
      have O8 := hid (O7.out.keep hg8 (O7.out.pne S7.out) (by have := GO.out; omega))
      have B8 := hid (Chg.below B7.out hg8 Q3.out B7.out.size)
      clear hs8 hg8 S7 O7 B7
      go_wp2_with fail
      refine (equal_o true _ O8.out.so S8.out.so (by simp)).mono ?_
      rintro e t9 ⟨rfl, hww⟩
      subst hww
      go_wp2_with fail
      refine (subset_o true _ (nilO _ 0) S8.out.so (by simp)).mono ?_
      rintro e t10 ⟨rfl, hww⟩
      subst hww
      go_wp2_with fail
      refine (meets_nilr _ S8.out).mono ?_
      rintro e t11 ⟨rfl, hww⟩
      subst hww
      have hcd : card n (sOf n zA) ≤ n := card_le _ _
      have HCI := hid (card_zero_iff' S8.out)
      have HCT := hid (fun W (h : SetAt W pa qa n (sOf n zA)) => count_set W h)
      generalize card n (sOf n zA) = c at hcd HCI HCT
      by_cases hc0 : c = 0
      · have HC0 := hid hc0
        go_wp2_with fail
        refine (equal_o true _ S8.out.so (nilO _ 0) (by simpa using HCI.out.1 HC0.out)).mono ?_
        rintro e t12 ⟨rfl, hww⟩
        subst hww
        go_wp2_with fail
        refine (HCT.out _ S8.out).mono ?_
        rintro e t13 ⟨rfl, hww⟩
        subst hww
        subst hc0
        go_wp2_with fail
        refine (andwith_o _ S8.out (nilO _ (qa + 1)) (Or.inl (by omega))).mono ?_
        rintro e t14 ⟨rfl, hs, hg⟩
        have S9 : Hid (SetAt t14 pa qa n (fun _ => false)) := hid (hs.turn (fun i => by simp))
        have B9 := hid (Chg.below B8.out hg Q3.out B8.out.size)
        clear hs hg
        go_wp2_with fail
        refine (count_zero _ S9.out).mono ?_
        rintro e t15 ⟨rfl, hww⟩
        subst hww
        go_wp2_with fail
        refine (equal_o true _ (nilO _ 0) (nilO _ 0) (by simp)).mono ?_
        rintro e t16 ⟨rfl, hww⟩
        subst hww
        go_wp2_with fail
        go_ret
        exact ⟨rfl, B9.out⟩
      · have HC0 := hid hc0
        have hne : ((c : Int) == 0) = false := by simp; omega
        go_wp2_with fail
        refine (equal_o false _ S8.out.so (nilO _ 0) ⟨(fun h => by cases h), fun h => absurd (HCI.out.2 (by simpa using h)) HC0.out⟩).mono ?_
        rintro e t12 ⟨rfl, hww⟩
        subst hww
        go_wp2_with fail
        refine (HCT.out _ S8.out).mono ?_
        rintro e t13 ⟨rfl, hww⟩
        subst hww
        go_wp2_with fail
        refine (andwith_o _ S8.out (nilO _ (qa + 1)) (Or.inl (by omega))).mono ?_
        rintro e t14 ⟨rfl, hs, hg⟩
        have S9 : Hid (SetAt t14 pa qa n (fun _ => false)) := hid (hs.turn (fun i => by simp))
        have B9 := hid (Chg.below B8.out hg Q3.out B8.out.size)
        clear hs hg
        go_wp2_with fail
        refine (count_zero _ S9.out).mono ?_
        rintro e t15 ⟨rfl, hww⟩
        subst hww
        go_wp2_with fail
        refine (equal_o true _ (nilO _ 0) (nilO _ 0) (by simp)).mono ?_
        rintro e t16 ⟨rfl, hww⟩
        subst hww
        go_wp2_with fail
        go_ret
        exact ⟨rfl, B9.out⟩
end Go.Proofs.YtkagdmhijjfnnabDoor
