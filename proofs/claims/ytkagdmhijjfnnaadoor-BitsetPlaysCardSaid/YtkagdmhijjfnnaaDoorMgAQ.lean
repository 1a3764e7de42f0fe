import Derived.Test.YtkagdmhijjfnnaaDoorMgAP
import Derived.Laws.AppendOwnNone
namespace Go.Proofs.YtkagdmhijjfnnaaDoor
open Go.RowKit Bs
set_option linter.unusedVariables false
theorem Holds.rd {w : World} {v : Value} {zs : List Int} (h : Holds w v zs) : ∃ a cap, v = .slice a zs.length cap ∧ Rd w a zs := by
  rcases h.ex with ⟨rfl, rfl⟩ | ⟨b, off, cap, rfl, hc⟩
  · exact ⟨none, 0, rfl, Or.inl rfl⟩
  · refine ⟨_, cap, rfl, ?_⟩
    by_cases e : zs.length = 0
    · exact Or.inl e
    · exact Or.inr ⟨b, off, rfl, block_lt_of_cell (hc 0 (by omega)), hc⟩
theorem Holds.low {w w' : World} {v : Value} {zs : List Int} (h : Holds w v zs) (k : Below w.heap.size w w') : Holds w' v zs := by
  constructor
  rcases h.ex with h | ⟨b, off, cap, rfl, hc⟩
  · exact Or.inl h
  · exact Or.inr ⟨b, off, cap, rfl, fun j hj => (k.cell (p := ⟨b, off + j, none⟩) (block_lt_of_cell (hc j hj))).trans (hc j hj)⟩
theorem holds_take {w : World} {b off : Nat} {zs : List Int} (hc : ∀ j, j < zs.length → w.cell? ⟨b, off + j, none⟩ = some (.int .i64 (zs.getD j 0))) {k c : Nat} (hk : k ≤ zs.length) : Holds w (.slice (some ⟨b, off, none⟩) k c) (zs.take k) := by
  have e : (zs.take k).length = k := by rw [List.length_take]; omega
  refine ⟨Or.inr ⟨b, off, c, by rw [e], fun j hj => ?_⟩⟩
  rw [e] at hj
  rw [hc j (by omega), List.getD_eq_getElem?_getD, List.getD_eq_getElem?_getD, List.getElem?_take, if_pos hj]
theorem holds_drop {w : World} {b off : Nat} {zs : List Int} (hc : ∀ j, j < zs.length → w.cell? ⟨b, off + j, none⟩ = some (.int .i64 (zs.getD j 0))) {k l c : Nat} (hk : k + l = zs.length) : Holds w (.slice (some ⟨b, off + k, none⟩) l c) (zs.drop k) := by
  have e : (zs.drop k).length = l := by rw [List.length_drop]; omega
  refine ⟨Or.inr ⟨b, off + k, c, by rw [e], fun j hj => ?_⟩⟩
  rw [e] at hj
  rw [Nat.add_assoc, hc (k + j) (by omega), List.getD_eq_getElem?_getD, List.getD_eq_getElem?_getD, List.getElem?_drop]
theorem holds_src {w : World} {b off : Nat} {ys : List Int} (hc : ∀ j, j < ys.length → w.cell? ⟨b, off + j, none⟩ = some (.int .i64 (ys.getD j 0))) : ∀ j u, (ys.map (Value.int .i64))[j]? = some u → w.cell? ((⟨b, off, none⟩ : Addr).add j) = some u := by
  intro j u hj
  rw [List.getElem?_map] at hj
  rcases e : ys[j]? with _ | z
  · rw [e] at hj; cases hj
  · rw [e] at hj
    simp at hj
    subst hj
    have hl : j < ys.length := by
      apply Classical.byContradiction; intro c
      rw [List.getElem?_eq_none (by omega)] at e; cases e
    rw [Go.WideShapes.add_plain]
    have := hc j hl
    rw [List.getD_eq_getElem?_getD, e] at this
    exact this
/-- An append of a list of numbers to a row of one's own. -/
theorem wpList_append_src {w : World} {ops : Array Oper} {rest : List Oper} {o : Oper} {a : Act} {Q : Exit → Act → World → Prop} (hgd : o.guard = none) (s x : Operand)
    (ho : o.op = .call { callee := .builtin .append, args := #[s, x], argTypes := #[28, 28] })
    (base : Nat) (v : Value) (zs : List Int) (hs : a.eval s = v) (hown : OwnI w base v zs) (v' : Value) (ys : List Int) (hx : a.eval x = v') (hsrc : Holds w v' ys) (hbound : zs.length + ys.length ≤ 17592186044000) (hbase : base ≤ w.heap.size)
    (h : ∀ v'' w', OwnI w' base v'' (zs ++ ys) → w.grownBy w' v.ownBlock → wpList Tryd.prog ops Q rest (a.put o.dst v'') w') : wpList Tryd.prog ops Q (o :: rest) a w := by
  obtain ⟨i0, hi, hz0, hz1, hz2⟩ := info3
  rcases hsrc.ex with ⟨rfl, rfl⟩ | ⟨b, off, cap, rfl, hc⟩
  · refine wpList_append_own_none hgd s x 28 ho base 3 i0 1 Tryd.underlying28 hi v _ _ hs hown hx ?_
    exact h v w (by rw [List.append_nil]; exact hown) ⟨rfl, rfl, rfl, Nat.le_refl _, fun _ _ _ => rfl⟩
  · refine wpList_append_own w hgd s x 28 ho base 3 i0 (.int .i64 0) 1 8 Tryd.underlying28 hi hz0 hz1 hz2 rfl (by decide) v _ _ hs hown ⟨b, off, none⟩ ys.length cap (ys.map (Value.int .i64)) hx (by simp) (holds_src hc) (by intro u hu; simp at hu; obtain ⟨z, _, rfl⟩ := hu; rfl) (by unfold maxLen; omega) (by omega) hbase ?_
    intro v'' w' ho' hg _
    refine h v'' w' ?_ hg
    unfold OwnI
    rw [List.length_append, List.map_append]
    exact ho'
theorem own_zero (w : World) (n : Nat) (hn : w.heap.size = n) : OwnI (w.alloc (.cells #[] 3)) n (.slice (some ⟨n, 0, none⟩) 0 0) [] := by
  subst hn
  exact World.ownsRow_made w #[] 0 (Nat.le_refl _) (Nat.zero_le _) rfl
set_option maxRecDepth 100000 in
set_option maxHeartbeats 2000000 in
theorem dmembers (n : Int) (v : Value) (zs : List Int) (w : World) (h : Holds w v zs) (hL : zs.length ≤ 65536) :
    Calls Tryd.prog 97 #[.agg #[.int .i64 n, v]] w fun e w' => ∃ v', e = .returned v' ∧ OwnI w' w.heap.size v' zs ∧ Below w.heap.size w w' := by
  have HB := hid ((lowAlloc w (.cells #[.int .i64 n, v] 30)).alloc (by simp) (.cells #[] 3))
  have H := hid (h.low HB.out)
  have O := hid (own_zero (w.alloc (.cells #[.int .i64 n, v] 30)) (w.heap.size + 1) (by simp))
  clear h
  go_enter Tryd.func97, Tryd.ntmps97
  go_wp2_with (at_builtin; refine wpList_append_src rfl _ _ rfl (w.heap.size + 1) _ [] rfl O.out _ zs rfl H.out ?c1 ?c2 ?_; rotate_left 2; intro v1 w1 o1 g1)
  case c1 => simp; omega
  case c2 => simp
  have B1 := hid (HB.out.grown g1 (by simp; omega) (fun k hk => by have := owns_block O.out k hk; omega))
  have O1 := hid (own_mono o1 (Nat.le_succ _))
  clear o1 g1 HB H O
  go_wp2_with fail
  go_ret
  exact ⟨_, rfl, O1.out, B1.out⟩
end Go.Proofs.YtkagdmhijjfnnaaDoor
namespace Go.Proofs.YtkagdmhijjfnnaaDoor
open Go.RowKit Bs
set_option linter.unusedVariables false
set_option maxRecDepth 100000 in
set_option maxHeartbeats 4000000 in
theorem dnot (na nb : Nat) (a b : Option Addr) (ca cb : Nat) (A B : List Int) (w : World) (ha : Rd w a A) (hb : Rd w b B) (hA : A.length ≤ 65536) (hB : B.length ≤ 65536) :
    Calls Tryd.prog 74 #[.agg #[.int .i64 (na : Int), .slice a A.length ca], .agg #[.int .i64 (nb : Int), .slice b B.length cb]] w fun e w' => ∃ v, e = .returned (.agg #[.int .i64 ((nb : Nat) : Int), v]) ∧ OwnI w' w.heap.size v (pk false true false A B) ∧ Below w.heap.size w w' := by
  have HK := hid (fun W (h : Below w.heap.size w W) => dpick false true false a b ca cb A B W (ha.low h (Nat.le_refl _)) (hb.low h (Nat.le_refl _)) hA hB)
  have X0 := hid (Bq.new w (na : Int) (nb : Int) (.slice a A.length ca) (.slice b B.length cb))
  clear ha hb hA hB
  generalize A.length = la at *
  generalize B.length = lb at *
  go_enter Tryd.func74, Tryd.ntmps74
  go_wp2_with fail
  generalize ((w.alloc _).alloc _).alloc _ = X at *
  have t0 := X0.out.a0
  have t1 := X0.out.a1
  have t2 := X0.out.b0
  have t3 := X0.out.b1
  have Y0 := hid (X0.out.on (belowDr X))
  go_region_held3 (fun Y => Y.cell? ⟨w.heap.size, 0, none⟩ = some (.int .i64 (na : Int)) ∧ Y.cell? ⟨w.heap.size, 1, none⟩ = some (.slice a la ca) ∧ Y.cell? ⟨w.heap.size + 1, 0, none⟩ = some (.int .i64 (nb : Int)) ∧ Y.cell? ⟨w.heap.size + 1, 1, none⟩ = some (.slice b lb cb))
    (first | exact ⟨t0, t1, t2, t3⟩ | exact T3 | exact bxs_oth T3 | go_keep)
    (first
      | (go_at_call 96; refine (HK.out _ Y0.out.low).mono ?_; rintro e w3 ⟨v, rfl, ho, hb3⟩
         have Y3 := hid (Y0.out.on hb3)
         have T3 := And.intro Y3.out.a0 (And.intro Y3.out.a1 (And.intro Y3.out.b0 Y3.out.b1))
         have r0 := Y3.out.r0
         have r1 := Y3.out.r1
         have f0 := Y3.out.f0
         have f1 := Y3.out.f1
         obtain ⟨av, cv, hv⟩ := own_form ho
         subst hv
         have O3 := hid (own_mono ho (Nat.le_trans (Nat.le_of_lt (Nat.lt_trans (Nat.lt_succ_self _) (Nat.lt_trans (Nat.lt_succ_self _) Y0.out.lt))) (Nat.le_refl _)))
         have F3 := hid (own_far ho Y0.out.lt)
         clear hb3 ho))
  go_wp2_with fail
  refine bodyPost_ret (v := .agg #[.int .i64 (nb : Int), .slice av _ cv]) ?_ rfl ⟨_, rfl, own_set (own_set O3.out _ F3.out) _ F3.out, below_st (below_st Y3.out.low _ _ _ (by omega)) _ _ _ (by omega)⟩
  rw [results_cell1 rfl]
  go_simp
set_option maxRecDepth 100000 in
set_option maxHeartbeats 4000000 in
theorem dandw (na nb : Nat) (a b : Option Addr) (ca cb : Nat) (A B : List Int) (w : World) (ha : Rd w a A) (hb : Rd w b B) (hA : A.length ≤ 65536) (hB : B.length ≤ 65536) :
    Calls Tryd.prog 79 #[.agg #[.int .i64 (na : Int), .slice a A.length ca], .agg #[.int .i64 (nb : Int), .slice b B.length cb]] w fun e w' => ∃ v, e = .returned (.agg #[.int .i64 ((na : Nat) : Int), v]) ∧ OwnI w' w.heap.size v (pk false false true A B) ∧ Below w.heap.size w w' := by
  have HK := hid (fun W (h : Below w.heap.size w W) => dpick false false true a b ca cb A B W (ha.low h (Nat.le_refl _)) (hb.low h (Nat.le_refl _)) hA hB)
  have X0 := hid (Bq.new w (na : Int) (nb : Int) (.slice a A.length ca) (.slice b B.length cb))
  clear ha hb hA hB
  generalize A.length = la at *
  generalize B.length = lb at *
  go_enter Tryd.func79, Tryd.ntmps79
  go_wp2_with fail
  generalize ((w.alloc _).alloc _).alloc _ = X at *
  have t0 := X0.out.a0
  have t1 := X0.out.a1
  have t2 := X0.out.b0
  have t3 := X0.out.b1
  have Y0 := hid (X0.out.on (belowDr X))
  go_region_held3 (fun Y => Y.cell? ⟨w.heap.size, 0, none⟩ = some (.int .i64 (na : Int)) ∧ Y.cell? ⟨w.heap.size, 1, none⟩ = some (.slice a la ca) ∧ Y.cell? ⟨w.heap.size + 1, 0, none⟩ = some (.int .i64 (nb : Int)) ∧ Y.cell? ⟨w.heap.size + 1, 1, none⟩ = some (.slice b lb cb))
    (first | exact ⟨t0, t1, t2, t3⟩ | exact T3 | exact bxs_oth T3 | go_keep)
    (first
      | (go_at_call 96; refine (HK.out _ Y0.out.low).mono ?_; rintro e w3 ⟨v, rfl, ho, hb3⟩
         have Y3 := hid (Y0.out.on hb3)
         have T3 := And.intro Y3.out.a0 (And.intro Y3.out.a1 (And.intro Y3.out.b0 Y3.out.b1))
         have r0 := Y3.out.r0
         have r1 := Y3.out.r1
         have f0 := Y3.out.f0
         have f1 := Y3.out.f1
         obtain ⟨av, cv, hv⟩ := own_form ho
         subst hv
         have O3 := hid (own_mono ho (Nat.le_trans (Nat.le_of_lt (Nat.lt_trans (Nat.lt_succ_self _) (Nat.lt_trans (Nat.lt_succ_self _) Y0.out.lt))) (Nat.le_refl _)))
         have F3 := hid (own_far ho Y0.out.lt)
         clear hb3 ho))
  go_wp2_with fail
  refine bodyPost_ret (v := .agg #[.int .i64 (na : Int), .slice av _ cv]) ?_ rfl ⟨_, rfl, own_set (own_set O3.out _ F3.out) _ F3.out, below_st (below_st Y3.out.low _ _ _ (by omega)) _ _ _ (by omega)⟩
  rw [results_cell1 rfl]
  go_simp
set_option maxRecDepth 100000 in
set_option maxHeartbeats 4000000 in
theorem dandnw (na nb : Nat) (a b : Option Addr) (ca cb : Nat) (A B : List Int) (w : World) (ha : Rd w a A) (hb : Rd w b B) (hA : A.length ≤ 65536) (hB : B.length ≤ 65536) :
    Calls Tryd.prog 81 #[.agg #[.int .i64 (na : Int), .slice a A.length ca], .agg #[.int .i64 (nb : Int), .slice b B.length cb]] w fun e w' => ∃ v, e = .returned (.agg #[.int .i64 ((na : Nat) : Int), v]) ∧ OwnI w' w.heap.size v (pk true false false A B) ∧ Below w.heap.size w w' := by
  have HK := hid (fun W (h : Below w.heap.size w W) => dpick true false false a b ca cb A B W (ha.low h (Nat.le_refl _)) (hb.low h (Nat.le_refl _)) hA hB)
  have X0 := hid (Bq.new w (na : Int) (nb : Int) (.slice a A.length ca) (.slice b B.length cb))
  clear ha hb hA hB
  generalize A.length = la at *
  generalize B.length = lb at *
  go_enter Tryd.func81, Tryd.ntmps81
  go_wp2_with fail
  generalize ((w.alloc _).alloc _).alloc _ = X at *
  have t0 := X0.out.a0
  have t1 := X0.out.a1
  have t2 := X0.out.b0
  have t3 := X0.out.b1
  have Y0 := hid (X0.out.on (belowDr X))
  go_region_held3 (fun Y => Y.cell? ⟨w.heap.size, 0, none⟩ = some (.int .i64 (na : Int)) ∧ Y.cell? ⟨w.heap.size, 1, none⟩ = some (.slice a la ca) ∧ Y.cell? ⟨w.heap.size + 1, 0, none⟩ = some (.int .i64 (nb : Int)) ∧ Y.cell? ⟨w.heap.size + 1, 1, none⟩ = some (.slice b lb cb))
    (first | exact ⟨t0, t1, t2, t3⟩ | exact T3 | exact bxs_oth T3 | go_keep)
    (first
      | (go_at_call 96; refine (HK.out _ Y0.out.low).mono ?_; rintro e w3 ⟨v, rfl, ho, hb3⟩
         have Y3 := hid (Y0.out.on hb3)
         have T3 := And.intro Y3.out.a0 (And.intro Y3.out.a1 (And.intro Y3.out.b0 Y3.out.b1))
         have r0 := Y3.out.r0
         have r1 := Y3.out.r1
         have f0 := Y3.out.f0
         have f1 := Y3.out.f1
         obtain ⟨av, cv, hv⟩ := own_form ho
         subst hv
         have O3 := hid (own_mono ho (Nat.le_trans (Nat.le_of_lt (Nat.lt_trans (Nat.lt_succ_self _) (Nat.lt_trans (Nat.lt_succ_self _) Y0.out.lt))) (Nat.le_refl _)))
         have F3 := hid (own_far ho Y0.out.lt)
         clear hb3 ho))
  go_wp2_with fail
  refine bodyPost_ret (v := .agg #[.int .i64 (na : Int), .slice av _ cv]) ?_ rfl ⟨_, rfl, own_set (own_set O3.out _ F3.out) _ F3.out, below_st (below_st Y3.out.low _ _ _ (by omega)) _ _ _ (by omega)⟩
  rw [results_cell1 rfl]
  go_simp
set_option maxRecDepth 100000 in
set_option maxHeartbeats 4000000 in
theorem dsubset (na nb : Int) (a b : Option Addr) (ca cb : Nat) (A B : List Int) (w : World) (ha : Rd w a A) (hb : Rd w b B) (hA : A.length ≤ 65536) (hB : B.length ≤ 65536) (r : Bool) (hr : r = decide ((pk true false false A B).length = 0)) :
    Calls Tryd.prog 91 #[.agg #[.int .i64 na, .slice a A.length ca], .agg #[.int .i64 nb, .slice b B.length cb]] w fun e w' => e = .returned (.bool r) ∧ Below w.heap.size w w' := by
  have HB := hid ((lowAlloc w (.cells #[.int .i64 na, .slice a A.length ca] 30)).alloc (by simp) (.cells #[.int .i64 nb, .slice b B.length cb] 30))
  have HK := hid (dpick true false false a b ca cb A B _ (ha.low HB.out (Nat.le_refl _)) (hb.low HB.out (Nat.le_refl _)) hA hB)
  have HR := hid hr
  have HPL := hid (Nat.le_trans (pk_len true false false A B) (Nat.add_le_add hA hB))
  clear ha hb hA hB hr
  generalize A.length = la at *
  generalize B.length = lb at *
  go_enter Tryd.func91, Tryd.ntmps91
  go_wp2_with fail
  refine HK.out.mono ?_
  rintro e w3 ⟨v, rfl, ho, hb3⟩
  obtain ⟨av, cv, hv⟩ := own_form ho
  subst hv
  have B3 := hid (belowT HB.out (hb3))
  have hpl := HPL.out
  generalize (pk true false false A B).length = m at *
  clear ho hb3 HK HB
  by_cases h : m = 0
  · have h' : (m : Int) = 0 := by omega
    go_wp2_with fail
    go_ret
    exact ⟨by rw [HR.out, decide_eq_true h]; rfl, B3.out⟩
  · have h' : ¬ (m : Int) = 0 := by omega
    have h2 : ((m : Int) == 0) = false := by simpa using h'
    go_wp2_with fail
    go_ret
    exact ⟨by rw [HR.out, decide_eq_false h]; rfl, B3.out⟩
set_option maxRecDepth 100000 in
set_option maxHeartbeats 4000000 in
theorem dmeets (na nb : Int) (a b : Option Addr) (ca cb : Nat) (A B : List Int) (w : World) (ha : Rd w a A) (hb : Rd w b B) (hA : A.length ≤ 65536) (hB : B.length ≤ 65536) (r : Bool) (hr : r = decide (0 < (pk false false true A B).length)) :
    Calls Tryd.prog 92 #[.agg #[.int .i64 na, .slice a A.length ca], .agg #[.int .i64 nb, .slice b B.length cb]] w fun e w' => e = .returned (.bool r) ∧ Below w.heap.size w w' := by
  have HB := hid ((lowAlloc w (.cells #[.int .i64 na, .slice a A.length ca] 30)).alloc (by simp) (.cells #[.int .i64 nb, .slice b B.length cb] 30))
  have HK := hid (dpick false false true a b ca cb A B _ (ha.low HB.out (Nat.le_refl _)) (hb.low HB.out (Nat.le_refl _)) hA hB)
  have HR := hid hr
  have HPL := hid (Nat.le_trans (pk_len false false true A B) (Nat.add_le_add hA hB))
  clear ha hb hA hB hr
  generalize A.length = la at *
  generalize B.length = lb at *
  go_enter Tryd.func92, Tryd.ntmps92
  go_wp2_with fail
  refine HK.out.mono ?_
  rintro e w3 ⟨v, rfl, ho, hb3⟩
  obtain ⟨av, cv, hv⟩ := own_form ho
  subst hv
  have B3 := hid (belowT HB.out (hb3))
  have hpl := HPL.out
  generalize (pk false false true A B).length = m at *
  clear ho hb3 HK HB
  by_cases h : 0 < m
  · have h' : (0 : Int) < (m : Int) := by omega
    go_wp2_with fail
    go_ret
    exact ⟨by rw [HR.out, decide_eq_true h]; rfl, B3.out⟩
  · have h' : ¬ (0 : Int) < (m : Int) := by omega
    have h2 : m = 0 := by omega
    go_wp2_with fail
    go_ret
    exact ⟨by rw [HR.out, decide_eq_false h]; rfl, B3.out⟩
set_option maxRecDepth 100000 in
set_option maxHeartbeats 4000000 in
theorem dequal (na nb : Int) (a b : Option Addr) (ca cb : Nat) (A B : List Int) (w : World) (ha : Rd w a A) (hb : Rd w b B) (hA : A.length ≤ 65536) (hB : B.length ≤ 65536) (r : Bool) (hr : r = decide ((pk true true false A B).length = 0)) :
    Calls Tryd.prog 93 #[.agg #[.int .i64 na, .slice a A.length ca], .agg #[.int .i64 nb, .slice b B.length cb]] w fun e w' => e = .returned (.bool r) ∧ Below w.heap.size w w' := by
  have HB := hid ((lowAlloc w (.cells #[.int .i64 na, .slice a A.length ca] 30)).alloc (by simp) (.cells #[.int .i64 nb, .slice b B.length cb] 30))
  have HK := hid (dpick true true false a b ca cb A B _ (ha.low HB.out (Nat.le_refl _)) (hb.low HB.out (Nat.le_refl _)) hA hB)
  have HR := hid hr
  have HPL := hid (Nat.le_trans (pk_len true true false A B) (Nat.add_le_add hA hB))
  clear ha hb hA hB hr
  generalize A.length = la at *
  generalize B.length = lb at *
  go_enter Tryd.func93, Tryd.ntmps93
  go_wp2_with fail
  refine HK.out.mono ?_
  rintro e w3 ⟨v, rfl, ho, hb3⟩
  obtain ⟨av, cv, hv⟩ := own_form ho
  subst hv
  have B3 := hid (belowT HB.out (hb3))
  have hpl := HPL.out
  generalize (pk true true false A B).length = m at *
  clear ho hb3 HK HB
  by_cases h : m = 0
  · have h' : (m : Int) = 0 := by omega
    go_wp2_with fail
    go_ret
    exact ⟨by rw [HR.out, decide_eq_true h]; rfl, B3.out⟩
  · have h' : ¬ (m : Int) = 0 := by omega
    have h2 : ((m : Int) == 0) = false := by simpa using h'
    go_wp2_with fail
    go_ret
    exact ⟨by rw [HR.out, decide_eq_false h]; rfl, B3.out⟩
end Go.Proofs.YtkagdmhijjfnnaaDoor
