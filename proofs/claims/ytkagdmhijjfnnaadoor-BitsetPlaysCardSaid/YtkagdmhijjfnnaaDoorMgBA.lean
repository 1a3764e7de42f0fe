import Derived.Test.YtkagdmhijjfnnaaDoorMgAX
namespace Go.Proofs.YtkagdmhijjfnnaaDoor
open Go.RowKit Bs
set_option linter.unusedVariables false
set_option maxRecDepth 100000 in
set_option maxHeartbeats 8000000 in
theorem join_clone (k9 oa ob oc oi : Int) (g4 : k9 ≠ 4) (g5 : k9 ≠ 5) (g6 : k9 ≠ 6) (g7 : k9 ≠ 7) (g8 : k9 ≠ 8) (vL vW : Value) (w0 W : World) (B : Nat) (st : Nat → RSt) (h : Rg w0 W B st) (ok : Ok st) :
    Calls Tryd.prog 49 #[.pointer (some ⟨B, 0, none⟩), .agg #[.int .i64 k9, .int .i64 oa, .int .i64 ob, .int .i64 oc, .int .i64 oi, vL, vW]] W fun e w' => e = .returned (.bool true) ∧ ∃ st', Rg w0 w' B st' ∧ Ok st' := by
  obtain ⟨ka, ha, ea⟩ := reg_of oa
  obtain ⟨kb, hb, eb⟩ := reg_of ob
  obtain ⟨kc, hc, ec⟩ := reg_of oc
  have O1 := hid (Ob.new W k9 oa ob oc oi vL vW)
  have R1 := hid (h.low (lowAlloc W (.cells #[.int .i64 k9, .int .i64 oa, .int .i64 ob, .int .i64 oc, .int .i64 oi, vL, vW] 37)))
  obtain ⟨ab, cb, eqb, _⟩ := own_shape (h.ow kb hb)
  obtain ⟨ac, cc, eqc, _⟩ := own_shape (h.ow kc hc)
  have BB := hid eqb
  have CC := hid eqc
  have OK := hid ok
  clear h ok eqb eqc
  have o0 := O1.out.o0
  have o1 := O1.out.o1
  have o2 := O1.out.o2
  have o3 := O1.out.o3
  go_enter Tryd.func49, Tryd.ntmps49
  go_wp2_with fail
  generalize W.alloc _ = X at *
  go_quiet (fail)
  have bX := belowT (belowDrewN nq) (lowAlloc (X.drewN nq) (.cells #[.int .i64 0, .slice none 0 0] 30))
  have O2 := hid (O1.out.on bX)
  have R2 := hid (R1.out.low bX)
  have rb2 : Hid (((X.drewN nq).alloc (.cells #[.int .i64 0, .slice none 0 0] 30)).heap[X.heap.size]? = some (.cells #[.int .i64 0, .slice none 0 0] 30)) := hid (heap_alloc_new (X.drewN nq) _)
  have p0 := O2.out.o0
  have hrw := hid (show w0.heap.size ≤ X.heap.size from R1.out.lo.size)
  have hBr := hid (show B < X.heap.size from R1.out.lt)
  have e4 : (k9 == 4) = false := by simpa using g4
  have e5 : (k9 == 5) = false := by simpa using g5
  have e6 : (k9 == 6) = false := by simpa using g6
  have e7 : (k9 == 7) = false := by simpa using g7
  have e8 : (k9 == 8) = false := by simpa using g8
  clear o0 o1 o2 o3 O1 R1 bX ea eb ec
  go_wp2_with fail
  generalize (X.drewN nq).alloc _ = Z at *
  generalize X.heap.size = rb at *
  have hi : (kb : Int) < 4 := by omega
  have hj : (kc : Int) < 4 := by omega
  have hia : (ka : Int) < 4 := by omega
  obtain ⟨b0, b1, b2, b3⟩ := R2.out.cells hb
  obtain ⟨d0, d1, d2, d3⟩ := R2.out.cells hc
  rw [BB.out] at b2
  rw [CC.out] at d2
  have Y0 := hid (R2.out.low (belowDr Z))
  have rbY := hid (show Z.drew.heap[rb]? = some (.cells #[.int .i64 0, .slice none 0 0] 30) from rb2.out)
  have hBn : B ≠ rb := by have := hBr.out; omega
  go_region_held3 (fun Y => Y.cell? ⟨B, kb, none⟩ = some (st kb).v ∧ Y.cell? ⟨B, 4 + kb * 2, none⟩ = some (.int .i64 ((st kb).rn : Int)) ∧ Y.cell? ⟨B, 4 + kb * 2 + 1, none⟩ = some (.slice ab (st kb).ms.length cb))
    (first | exact ⟨b0, b1, b2⟩ | exact T2 | exact T3 | exact ⟨(cell_oth hBn).trans ((cell_oth hBn).trans T3.1), (cell_oth hBn).trans ((cell_oth hBn).trans T3.2.1), (cell_oth hBn).trans ((cell_oth hBn).trans T3.2.2)⟩ | go_keep)
    (first
      | (go_at_call 42; refine (clone_o _ (Y0.out.so kb hb)).mono ?_; rintro e w2 ⟨p9, q9, rfl, fr⟩
         have Y2 := hid (Y0.out.low fr.low)
         have FR := hid fr
         have rb3 := hid ((fr.low.block rb (lt_of_block rbY.out)).trans rbY.out)
         obtain ⟨x0, x1, x2, x3⟩ := Y2.out.cells hb
         rw [BB.out] at x2
         have T2 := And.intro x0 (And.intro x1 x2)
         clear fr)
      | (go_at_call 75; refine (dclone (st kb).rn _ (st kb).ms _ (by rw [← BB.out]; exact Y2.out.ow kb hb) (OK.out kb hb).len).mono ?_; rintro e w3 ⟨v9, rfl, ho, hb3⟩
         have Y3 := hid (Y2.out.low hb3)
         obtain ⟨x0, x1, x2, x3⟩ := Y3.out.cells hb
         rw [BB.out] at x2
         have T3 := And.intro x0 (And.intro x1 x2)
         have S3 := hid (FR.out.at'.low hb3)
         obtain ⟨av, lv, cv, hv⟩ := own_form9 ho
         subst hv
         have O3 := hid ho
         have rb4 := hid ((hb3.block rb (lt_of_block rb3.out)).trans rb3.out)
         have r0 : w3.cell? ⟨rb, 0, none⟩ = some (.int .i64 0) := by rw [cell_of_row _ _ 0 _ _ _ rb4.out]; rfl
         have r1 : w3.cell? ⟨rb, 1, none⟩ = some (.slice none 0 0) := by rw [cell_of_row _ _ 1 _ _ _ rb4.out]; rfl
         have f0 := frozen_of_row w3 rb 0 _ _ rb4.out
         have f1 := frozen_of_row w3 rb 1 _ _ rb4.out
         clear ho))
  go_wp2_with fail
  clear b0 b1 b2 b3 d0 d1 d2 d3 x0 x1 x2 x3 T2 T3 r0 r1 f0 f1 p0
  generalize hm9 : (st kb).rn = m9 at *
  have cg : Chg rb w3 ((w3.setCell ⟨rb, 0, none⟩ (.int .i64 (m9 : Int))).setCell ⟨rb, 1, none⟩ (.slice av lv cv)) := (Chg.setCell 0 _).trans (Chg.setCell 1 _)
  have RV := hid (Y3.out.box cg rb4.out (by decide) hrw.out)
  have SV := hid (S3.out.box cg rb4.out (by decide))
  have OV := hid (own_box O3.out cg rb4.out (by decide))
  have rbV : Hid (((w3.setCell ⟨rb, 0, none⟩ (.int .i64 (m9 : Int))).setCell ⟨rb, 1, none⟩ (.slice av lv cv)).heap[rb]? = some (.cells #[.int .i64 (m9 : Int), .slice av lv cv] 30 (0, 0))) := hid (by rw [heap_setCell_same _ rb 1 _ _ _ (heap_setCell_same w3 rb 0 _ _ _ rb4.out)]; rfl)
  have HM9 := hid hm9
  clear cg hm9
  generalize (w3.setCell ⟨rb, 0, none⟩ (.int .i64 (m9 : Int))).setCell ⟨rb, 1, none⟩ (.slice av lv cv) = V at *
  obtain ⟨m0, m1, m2, m3⟩ := RV.out.cells ha
  have z0 := RV.out.fz ka
  have z1 := RV.out.fz (4 + ka * 2)
  have z2 := RV.out.fz (4 + ka * 2 + 1)
  have z3 := RV.out.fz (12 + ka)
  have n0 : V.cell? ⟨rb, 0, none⟩ = some (.int .i64 (m9 : Int)) := by rw [cell_of_row _ _ 0 _ _ _ rbV.out]; rfl
  have n1 : V.cell? ⟨rb, 1, none⟩ = some (.slice av lv cv) := by rw [cell_of_row _ _ 1 _ _ _ rbV.out]; rfl
  go_region
  have bdd := SV.out.bound
  have hX := hid (show Ok1 ⟨.pointer (some ⟨p9, 0, none⟩), q9, (st kb).n, (st kb).S, m9, .slice av lv cv, (st kb).ms, false⟩ from ⟨by rw [← HM9.out]; exact (OK.out kb hb).rn, (OK.out kb hb).is, (OK.out kb hb).n, (fun t ht => SV.out.cl t ht), Or.inr ⟨rfl, p9, rfl⟩⟩)
  have FIN := hid ((RV.out.setA ha ⟨.pointer (some ⟨p9, 0, none⟩), q9, (st kb).n, (st kb).S, m9, .slice av lv cv, (st kb).ms, false⟩ (Or.inr ⟨p9, rfl, SV.out⟩) (own_mono OV.out (Nat.zero_le _)) (fun p e => by
    injection e with e; injection e with e; injection e with e _ _
    subst e
    refine ⟨Nat.le_trans Y0.out.lo.size FR.out.hp, Nat.le_trans Y0.out.lo.size FR.out.hq, fun i hi _ p' e' => ?_⟩
    have := Y0.out.lts hi e'
    have h1 := FR.out.hp
    have h2 := FR.out.hq
    exact ⟨by omega, by show _ ≠ q9; omega⟩)).low (belowDr _))
  clear m0 m1 m2 m3 z0 z1 z2 z3 n0 n1 bdd
  go_wp2_with fail
  go_ret
  exact ⟨rfl, _, FIN.out, OK.out.upd hX.out⟩
end Go.Proofs.YtkagdmhijjfnnaaDoor
namespace Go.Proofs.YtkagdmhijjfnnaaDoor
open Go.RowKit Bs
set_option linter.unusedVariables false
theorem below_mv {W W' : World} {v : Value} {q n : Nat} {S S' : Nat → Bool} (h : SO W v q n S) (hv : v = .pointer none) (k : Below W.heap.size W W') (hS : ∀ i, S' i = false) : Mv W W' v q q n S' := by
  rcases h with ⟨e, hn, _⟩ | ⟨p, e, _⟩
  · exact Or.inl ⟨hv, k, hn, hS⟩
  · rw [hv] at e; cases e
theorem add_mv {v : Value} {q n : Nat} {S : Nat → Bool} (i : Int) (w : World) (h : SO w v q n S) :
    Calls Tryd.prog 39 #[v, .int .i64 i] w fun e w' => e = .returned (.bool (outB n S i)) ∧ Mv w w' v q q n (putS n S i) := by
  rcases h with ⟨rfl, rfl, hS⟩ | ⟨p, rfl, h⟩
  · have e : outB 0 S i = false := by unfold outB; simp; omega
    rw [e]
    refine (add_nil i w).mono ?_
    rintro e w' ⟨rfl, rfl⟩
    refine ⟨rfl, Or.inl ⟨rfl, Below.refl _ _, rfl, fun j => ?_⟩⟩
    unfold putS
    rw [hS]; simp
  · refine (add_all i w h).mono ?_
    rintro e w' ⟨rfl, s, c⟩
    exact ⟨rfl, Or.inr ⟨p, rfl, s, Or.inl ⟨c, rfl⟩⟩⟩
theorem rem_mv {v : Value} {q n : Nat} {S : Nat → Bool} (i : Int) (w : World) (h : SO w v q n S) (b : Bool) (hb : b = true ↔ ∃ a : Nat, i = a ∧ S a = true) :
    Calls Tryd.prog 40 #[v, .int .i64 i] w fun e w' => e = .returned (.bool b) ∧ Mv w w' v q q n (cutS S i) := by
  rcases h with ⟨rfl, rfl, hS⟩ | ⟨p, rfl, h⟩
  · have e : b = false := by
      cases b with
      | false => rfl
      | true => obtain ⟨a, _, c⟩ := hb.1 rfl; rw [hS] at c; cases c
    subst e
    refine (remove_nil i w).mono ?_
    rintro e w' ⟨rfl, k, rfl⟩
    refine ⟨rfl, Or.inl ⟨rfl, belowDrewN k, rfl, fun j => ?_⟩⟩
    unfold cutS
    rw [hS]; rfl
  · refine (remove_is i w h b hb).mono ?_
    rintro e w' ⟨rfl, s, c⟩
    exact ⟨rfl, Or.inr ⟨p, rfl, s, Or.inl ⟨c, rfl⟩⟩⟩
/-- Grow's error, by the document. -/
def growE (n : Nat) (m : Int) : Int := if 0 ≤ m ∧ m ≤ 65536 then (if m < n then 13 else 0) else 11
def growN (n : Nat) (m : Int) : Nat := if 0 ≤ m ∧ m ≤ 65536 ∧ ¬ m < n then m.toNat else n
theorem grow_mv {p q n : Nat} {S : Nat → Bool} (m : Int) (w : World) (h : SetAt w p q n S) :
    Calls Tryd.prog 43 #[.pointer (some ⟨p, 0, none⟩), .int .i64 m] w fun e w' => e = .returned (.int .i64 (growE n m)) ∧ ∃ q', Mv w w' (.pointer (some ⟨p, 0, none⟩)) q q' (growN n m) S := by
  unfold growE growN
  by_cases h1 : 0 ≤ m ∧ m ≤ 65536
  · rw [if_pos h1]
    by_cases h2 : m < n
    · rw [if_pos h2, if_neg (by omega)]
      refine (grow_no m 13 w h (Or.inr ⟨h1.1, h1.2, h2, rfl⟩)).mono ?_
      rintro e w' ⟨rfl, rfl⟩
      exact ⟨rfl, q, Or.inr ⟨p, rfl, h, Or.inl ⟨Chg.refl _ _, rfl⟩⟩⟩
    · rw [if_neg h2, if_pos ⟨h1.1, h1.2, h2⟩]
      obtain ⟨k, rfl⟩ : ∃ k : Nat, m = k := ⟨m.toNat, by omega⟩
      refine (grow_any k w h (by omega) (by omega)).mono ?_
      rintro e w' ⟨rfl, s, c⟩
      rw [Int.toNat_natCast]
      exact ⟨rfl, _, Or.inr ⟨p, rfl, s, Or.inr ⟨c, rfl⟩⟩⟩
  · rw [if_neg h1, if_neg (by omega)]
    refine (grow_no m 11 w h (Or.inl ⟨h1, rfl⟩)).mono ?_
    rintro e w' ⟨rfl, rfl⟩
    exact ⟨rfl, q, Or.inr ⟨p, rfl, h, Or.inl ⟨Chg.refl _ _, rfl⟩⟩⟩
/-- The operation's box stays when a set is turned. -/
theorem Ob.mv {w W W' w0 : World} {k a b c i : Int} {vL vW : Value} {B : Nat} {st : Nat → RSt} (h : Ob w W k a b c i vL vW) (hb : ∃ cs, W.heap[w.heap.size]? = some (.cells cs 37 (0, 0))) (R : Rg w0 W B st) {r : Nat} (hr : r < 4) {q' n' : Nat} {S' : Nat → Bool} (m : Mv W W' (st r).v (st r).q q' n' S') : Ob w W' k a b c i vL vW ∧ W'.heap[w.heap.size]? = W.heap[w.heap.size]? := by
  have e : W'.heap[w.heap.size]? = W.heap[w.heap.size]? := by
    rcases m with ⟨_, kk, _⟩ | ⟨p, e, hs, hc⟩
    · exact kk.block _ h.lt
    · have s := R.so r hr
      rw [e] at s
      obtain ⟨cp, hp⟩ := s.at'.bp
      obtain ⟨cq, hq⟩ := s.at'.bq
      obtain ⟨cs, ho⟩ := hb
      rcases hc with ⟨c, _⟩ | ⟨c, _⟩
      · exact c.block _ h.lt (kinds_ne ho hq (by decide))
      · exact c.block _ h.lt (kinds_ne ho hp (by decide))
  have sz : W.heap.size ≤ W'.heap.size := by
    rcases m with ⟨_, kk, _⟩ | ⟨p, _, hs, ⟨c, _⟩ | ⟨c, _⟩⟩
    · exact kk.size
    · exact c.size
    · exact c.size
  refine ⟨⟨?_, ?_, ?_, ?_, ?_, ?_, ?_, Nat.lt_of_lt_of_le h.lt sz⟩, e⟩
  · exact (World.cell?_of_block (w := W) (a := ⟨w.heap.size, 0, none⟩) e).trans h.o0
  · exact (World.cell?_of_block (w := W) (a := ⟨w.heap.size, 1, none⟩) e).trans h.o1
  · exact (World.cell?_of_block (w := W) (a := ⟨w.heap.size, 2, none⟩) e).trans h.o2
  · exact (World.cell?_of_block (w := W) (a := ⟨w.heap.size, 3, none⟩) e).trans h.o3
  · exact (World.cell?_of_block (w := W) (a := ⟨w.heap.size, 4, none⟩) e).trans h.o4
  · exact (World.cell?_of_block (w := W) (a := ⟨w.heap.size, 5, none⟩) e).trans h.o5
  · exact (World.cell?_of_block (w := W) (a := ⟨w.heap.size, 6, none⟩) e).trans h.o6
end Go.Proofs.YtkagdmhijjfnnaaDoor
namespace Go.Proofs.YtkagdmhijjfnnaaDoor
open Go.RowKit Bs
set_option linter.unusedVariables false
theorem upd_twice (st : Nat → RSt) (i : Nat) (x y : RSt) : upd (upd st i x) i y = upd st i y := funext fun j => by
  unfold upd; split <;> rfl
theorem put_bd {n : Nat} {S : Nat → Bool} (h : ∀ t, n ≤ t → S t = false) (i : Int) : ∀ t, n ≤ t → putS n S i t = false := fun t ht => by
  unfold putS
  rw [h t ht]
  have : ¬ t < n := by omega
  simp [this]
theorem cut_bd {n : Nat} {S : Nat → Bool} (h : ∀ t, n ≤ t → S t = false) (i : Int) : ∀ t, n ≤ t → cutS S i t = false := fun t ht => by
  unfold cutS
  rw [h t ht]; rfl
theorem grow_bd {n : Nat} {S : Nat → Bool} (h : ∀ t, n ≤ t → S t = false) (m : Int) : ∀ t, growN n m ≤ t → S t = false := fun t ht => by
  unfold growN at ht
  split at ht
  · exact h t (by omega)
  · exact h t ht
theorem grow_n {n : Nat} (h : n ≤ 65536) (m : Int) : growN n m ≤ 65536 := by
  unfold growN
  split <;> omega
theorem grow_o {v : Value} {q n p : Nat} {S : Nat → Bool} (m : Int) (w : World) (h : SO w v q n S) (hv : v = .pointer (some ⟨p, 0, none⟩)) :
    Calls Tryd.prog 43 #[v, .int .i64 m] w fun e w' => e = .returned (.int .i64 (growE n m)) ∧ ∃ q', Mv w w' v q q' (growN n m) S := by
  subst hv
  exact grow_mv m w h.at'
theorem reg_at (n : Int) : ∃ k : Nat, k < 4 ∧ bits .and .i64 n 3 = (k : Int) ∧ k = (n % 4).toNat := ⟨(n % 4).toNat, by omega, by rw [and3]; omega, rfl⟩
theorem take_drop_mem {zs : List Int} (k : Nat) (z : Int) : z ∈ zs ↔ z ∈ zs.take k ∨ z ∈ zs.drop k := by
  rw [← List.mem_append, List.take_append_drop]
theorem take_lt {zs : List Int} (hu : Up zs) (i z : Int) (h : z ∈ zs.take (bel zs i)) : z < i := by
  obtain ⟨j, hj, rfl⟩ := mem_getD.1 h
  rw [List.length_take] at hj
  rw [List.getD_eq_getElem?_getD, List.getElem?_take, if_pos (by omega), ← List.getD_eq_getElem?_getD]
  exact bel_lt hu i j (by omega)
theorem drop_ge {zs : List Int} (hu : Up zs) (i z : Int) (h : z ∈ zs.drop (bel zs i)) : i ≤ z := by
  obtain ⟨j, hj, rfl⟩ := mem_getD.1 h
  rw [List.length_drop] at hj
  rw [List.getD_eq_getElem?_getD, List.getElem?_drop, ← List.getD_eq_getElem?_getD]
  exact bel_ge hu i _ (by omega) (by omega)
theorem up_take {zs : List Int} (hu : Up zs) (k : Nat) : Up (zs.take k) := List.Pairwise.sublist (List.take_sublist _ _) hu
theorem up_drop {zs : List Int} (hu : Up zs) (k : Nat) : Up (zs.drop k) := List.Pairwise.sublist (List.drop_sublist _ _) hu
theorem put_is {n : Nat} {S : Nat → Bool} {zs : List Int} (h : MsOf n S zs) (i : Int) (h0 : 0 ≤ i) (h1 : i < n) (hno : ¬ i ∈ zs) : MsOf n (putS n S i) (zs.take (bel zs i) ++ [i] ++ zs.drop (bel zs i)) := by
  have hd : ∀ z, z ∈ zs.drop (bel zs i) → i < z := fun z hz => by
    have := drop_ge h.up i z hz
    have : z ≠ i := fun e => hno (by rw [← e]; exact (take_drop_mem (bel zs i) z).2 (Or.inr hz))
    omega
  refine MsOf.of_up ?_ fun z => ?_
  · refine List.pairwise_append.2 ⟨List.pairwise_append.2 ⟨up_take h.up _, List.pairwise_singleton _ _, fun a ha b hb => ?_⟩, up_drop h.up _, fun a ha b hb => ?_⟩
    · rw [List.mem_singleton] at hb; rw [hb]; exact take_lt h.up i a ha
    · rcases List.mem_append.1 ha with ha | ha
      · exact Int.lt_trans (take_lt h.up i a ha) (hd b hb)
      · rw [List.mem_singleton] at ha; rw [ha]; exact hd b hb
  · rw [List.mem_append, List.mem_append, List.mem_singleton]
    have e : (z ∈ zs.take (bel zs i) ∨ z = i) ∨ z ∈ zs.drop (bel zs i) ↔ z ∈ zs ∨ z = i := by
      rw [take_drop_mem (zs := zs) (bel zs i) z]
      constructor
      · rintro ((a | a) | a)
        · exact Or.inl (Or.inl a)
        · exact Or.inr a
        · exact Or.inl (Or.inr a)
      · rintro ((a | a) | a)
        · exact Or.inl (Or.inl a)
        · exact Or.inr a
        · exact Or.inl (Or.inr a)
    rw [e, h.mem_iff]
    unfold putS
    constructor
    · rintro (⟨a, e, x, y⟩ | e)
      · exact ⟨a, e, x, by simp [y]⟩
      · refine ⟨i.toNat, by omega, by omega, ?_⟩
        have : ((i.toNat : Nat) : Int) = i := by omega
        simp [this]; omega
    · rintro ⟨a, e, x, y⟩
      rw [Bool.or_eq_true, Bool.and_eq_true, decide_eq_true_iff] at y
      rcases y with y | y
      · exact Or.inl ⟨a, e, x, y⟩
      · exact Or.inr (by omega)
theorem same_set {n : Nat} {S T : Nat → Bool} {zs : List Int} (h : MsOf n S zs) (e : ∀ i, i < n → T i = S i) : MsOf n T zs :=
  MsOf.of_up h.up fun z => by
    rw [h.mem_iff]
    constructor
    · rintro ⟨a, e1, e2, e3⟩; exact ⟨a, e1, e2, by rw [e a e2]; exact e3⟩
    · rintro ⟨a, e1, e2, e3⟩; exact ⟨a, e1, e2, by rw [← e a e2]; exact e3⟩
theorem cut_is {n : Nat} {S : Nat → Bool} {zs : List Int} (h : MsOf n S zs) (i : Int) (hin : i ∈ zs) : MsOf n (cutS S i) (zs.take (bel zs i) ++ zs.drop (bel zs i + 1)) := by
  obtain ⟨hlt, he⟩ := (has_iff h.up i).1 hin
  have hd : zs.drop (bel zs i) = i :: zs.drop (bel zs i + 1) := by rw [drop_at hlt, he]
  have ud := up_drop h.up (bel zs i)
  rw [hd] at ud
  have ud' := List.pairwise_cons.1 ud
  refine MsOf.of_up ?_ fun z => ?_
  · refine List.pairwise_append.2 ⟨up_take h.up _, ud'.2, fun a ha b hb => ?_⟩
    exact Int.lt_trans (take_lt h.up i a ha) (ud'.1 b hb)
  · have e : z ∈ zs.take (bel zs i) ++ zs.drop (bel zs i + 1) ↔ z ∈ zs ∧ z ≠ i := by
      rw [List.mem_append, take_drop_mem (zs := zs) (bel zs i) z, hd, List.mem_cons]
      constructor
      · rintro (a | a)
        · exact ⟨Or.inl a, fun c => by have := take_lt h.up i z a; omega⟩
        · exact ⟨Or.inr (Or.inr a), fun c => by have := ud'.1 z a; omega⟩
      · rintro ⟨a | a | a, c⟩
        · exact Or.inl a
        · exact absurd a c
        · exact Or.inr a
    rw [e, h.mem_iff]
    unfold cutS
    constructor
    · rintro ⟨⟨a, e, x, y⟩, c⟩
      exact ⟨a, e, x, by simp [y]; omega⟩
    · rintro ⟨a, e, x, y⟩
      simp at y
      exact ⟨⟨a, e, x, y.1⟩, by omega⟩
theorem has_in {n : Nat} {S : Nat → Bool} {zs : List Int} (h : MsOf n S zs) (hb : ∀ t, n ≤ t → S t = false) (i : Int) : i ∈ zs ↔ ∃ a : Nat, i = a ∧ S a = true := by
  rw [h.mem_iff]
  constructor
  · rintro ⟨a, e, _, y⟩; exact ⟨a, e, y⟩
  · rintro ⟨a, e, y⟩
    refine ⟨a, e, ?_, y⟩
    apply Classical.byContradiction; intro c
    rw [hb a (by omega)] at y; cases y
theorem dadd_two (n : Nat) (v : Value) (zs : List Int) (S : Nat → Bool) (i : Int) (w : World) (h : OwnI w 0 v zs) (hs : MsOf n S zs) (hb : ∀ t, n ≤ t → S t = false) (hL : zs.length ≤ 65536) :
    Calls Tryd.prog 76 #[.agg #[.int .i64 (n : Int), v], .int .i64 i] w fun e w' => ∃ v' ms', e = .returned (.tuple #[.agg #[.int .i64 (n : Int), v'], .bool (outB n S i)]) ∧ OwnI w' 0 v' ms' ∧ MsOf n (putS n S i) ms' ∧ Below w.heap.size w w' := by
  have hin := has_in hs hb i
  by_cases c : (0 ≤ i ∧ i < n) ∧ ¬ i ∈ zs
  · have e : outB n S i = true := by
      unfold outB
      have : S i.toNat = false := by
        cases d : S i.toNat
        · rfl
        · exact absurd (hin.2 ⟨i.toNat, by omega, d⟩) c.2
      simp [c.1.1, c.1.2, this]
    rw [e]
    refine (dadd_yes n v zs i w h hs.up hL c.1.1 c.1.2 c.2).mono ?_
    rintro e w' ⟨v', rfl, ho, hb'⟩
    exact ⟨v', _, rfl, own_mono ho (Nat.zero_le _), put_is hs i c.1.1 c.1.2 c.2, hb'⟩
  · have c' : ¬ (0 ≤ i ∧ i < n) ∨ i ∈ zs := by
      by_cases d : 0 ≤ i ∧ i < n
      · exact Or.inr (Classical.byContradiction fun x => c ⟨d, x⟩)
      · exact Or.inl d
    have e : outB n S i = false := by
      unfold outB
      rcases c' with d | d
      · simp [d]
      · obtain ⟨a, e, y⟩ := hin.1 d
        subst e
        simp [y]
    rw [e]
    refine (dadd_no n v zs i w h hs.up hL c').mono ?_
    rintro e w' ⟨rfl, hb'⟩
    refine ⟨v, zs, rfl, own_low h hb', same_set hs fun j hj => ?_, hb'⟩
    unfold putS
    by_cases e : (j : Int) = i
    · rcases c' with d | d
      · omega
      · obtain ⟨a, e', y⟩ := hin.1 d
        obtain rfl : j = a := by omega
        simp [y]
    · simp [e]
theorem drem_two (n : Nat) (v : Value) (zs : List Int) (S : Nat → Bool) (i : Int) (w : World) (h : OwnI w 0 v zs) (hs : MsOf n S zs) (hb : ∀ t, n ≤ t → S t = false) (hL : zs.length ≤ 65536) :
    Calls Tryd.prog 77 #[.agg #[.int .i64 (n : Int), v], .int .i64 i] w fun e w' => ∃ v' ms', e = .returned (.tuple #[.agg #[.int .i64 (n : Int), v'], .bool (decide (i ∈ zs))]) ∧ OwnI w' 0 v' ms' ∧ MsOf n (cutS S i) ms' ∧ Below w.heap.size w w' := by
  have hin := has_in hs hb i
  by_cases c : i ∈ zs
  · rw [decide_eq_true c]
    refine (drem_yes n v zs i w h hs.up hL c).mono ?_
    rintro e w' ⟨v', rfl, ho, hb'⟩
    exact ⟨v', _, rfl, own_mono ho (Nat.zero_le _), cut_is hs i c, hb'⟩
  · rw [decide_eq_false c]
    refine (drem_no n v zs i w h hs.up hL c).mono ?_
    rintro e w' ⟨rfl, hb'⟩
    refine ⟨v, zs, rfl, own_low h hb', same_set hs fun j hj => ?_, hb'⟩
    unfold cutS
    by_cases e : (j : Int) = i
    · have : S j = false := by
        cases d : S j
        · rfl
        · exact absurd (hin.2 ⟨j, e.symm, d⟩) c
      simp [this]
    · simp [e]
theorem dgrow_two (n : Nat) (v : Value) (zs : List Int) (S : Nat → Bool) (m : Int) (w : World) (h : OwnI w 0 v zs) (hs : MsOf n S zs) (hb : ∀ t, n ≤ t → S t = false) (hL : zs.length ≤ 65536) :
    Calls Tryd.prog 78 #[.agg #[.int .i64 (n : Int), v], .int .i64 m] w fun e w' => ∃ v' ms', e = .returned (.tuple #[.agg #[.int .i64 ((growN n m : Nat) : Int), v'], .int .i64 (growE n m)]) ∧ OwnI w' 0 v' ms' ∧ MsOf (growN n m) S ms' ∧ Below w.heap.size w w' := by
  obtain ⟨a, l, cap, hv⟩ := own_form9 h
  unfold growE growN
  by_cases h1 : 0 ≤ m ∧ m ≤ 65536
  · rw [if_pos h1]
    by_cases h2 : m < n
    · rw [if_pos h2, if_neg (by omega)]
      refine (dgrow_no n v m w 13 a l cap hv (Or.inr ⟨h1.1, h1.2, h2, rfl⟩)).mono ?_
      rintro e w' ⟨rfl, hb'⟩
      exact ⟨v, zs, rfl, own_low h hb', hs, hb'⟩
    · rw [if_neg h2, if_pos ⟨h1.1, h1.2, h2⟩]
      obtain ⟨k, rfl⟩ : ∃ k : Nat, m = k := ⟨m.toNat, by omega⟩
      rw [Int.toNat_natCast]
      refine (dgrow_ok n k v zs w h hL (by omega) (by omega)).mono ?_
      rintro e w' ⟨v', rfl, ho, hb'⟩
      refine ⟨v', zs, rfl, own_mono ho (Nat.zero_le _), MsOf.of_up hs.up fun z => ?_, hb'⟩
      rw [hs.mem_iff]
      constructor
      · rintro ⟨a, e1, e2, e3⟩; exact ⟨a, e1, by omega, e3⟩
      · rintro ⟨a, e1, e2, e3⟩
        refine ⟨a, e1, ?_, e3⟩
        apply Classical.byContradiction; intro c
        rw [hb a (by omega)] at e3; cases e3
  · rw [if_neg h1, if_neg (by omega)]
    refine (dgrow_no n v m w 11 a l cap hv (Or.inl ⟨h1, rfl⟩)).mono ?_
    rintro e w' ⟨rfl, hb'⟩
    exact ⟨v, zs, rfl, own_low h hb', hs, hb'⟩
/-- The document's answer in its box. -/
structure Yb (w0 Y : World) (B : Nat) (st : Nat → RSt) (rb : Nat) (n : Nat) (v : Value) (ms : List Int) : Prop where
  rg : Rg w0 Y B st
  y0 : Y.cell? ⟨rb, 0, none⟩ = some (.int .i64 (n : Int))
  y1 : Y.cell? ⟨rb, 1, none⟩ = some v
  ow : OwnI Y 0 v ms
theorem Yb.two {w0 w3 : World} {B : Nat} {st : Nat → RSt} {n : Nat} {v : Value} {ms : List Int} (R : Rg w0 w3 B st) (O : OwnI w3 0 v ms) : Yb w0 (w3.alloc (.cells #[.int .i64 (n : Int), v] 30)) B st w3.heap.size n v ms := by
  have h := heap_alloc_new w3 (.cells #[.int .i64 (n : Int), v] 30)
  exact ⟨R.low (lowAlloc w3 _), by rw [cell_of_row _ _ 0 _ _ _ h]; rfl, by rw [cell_of_row _ _ 1 _ _ _ h]; rfl, own_low O (lowAlloc w3 _)⟩
theorem Yb.one {w0 w3 : World} {B : Nat} {st : Nat → RSt} {rb n : Nat} {v : Value} {ms : List Int} (R : Rg w0 w3 B st) (O : OwnI w3 0 v ms) {cs : Array Value} (hc : cs.size = 2) (hb : w3.heap[rb]? = some (.cells cs 30 (0, 0))) (hw : w0.heap.size ≤ rb) : Yb w0 ((w3.setCell ⟨rb, 0, none⟩ (.int .i64 (n : Int))).setCell ⟨rb, 1, none⟩ v) B st rb n v ms := by
  have cg : Chg rb w3 ((w3.setCell ⟨rb, 0, none⟩ (.int .i64 (n : Int))).setCell ⟨rb, 1, none⟩ v) := (Chg.setCell 0 _).trans (Chg.setCell 1 _)
  have e2 := heap_setCell_same _ rb 1 _ _ v (heap_setCell_same w3 rb 0 _ _ (.int .i64 (n : Int)) hb)
  refine ⟨R.box cg hb (by decide) hw, ?_, ?_, own_box O cg hb (by decide)⟩
  · rw [cell_of_row _ _ 0 _ _ _ e2, Array.getElem?_setIfInBounds_ne (by omega), Array.getElem?_setIfInBounds_self_of_lt (by omega)]
  · rw [cell_of_row _ _ 1 _ _ _ e2, Array.getElem?_setIfInBounds_self_of_lt (by simp; omega)]
end Go.Proofs.YtkagdmhijjfnnaaDoor
