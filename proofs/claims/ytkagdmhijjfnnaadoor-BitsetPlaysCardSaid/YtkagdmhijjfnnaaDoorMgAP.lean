import Derived.Test.YtkagdmhijjfnnaaDoorPd3
import Derived.Deep.RegionHeld3
import Derived.Laws.ResultCell
namespace Go.Proofs.YtkagdmhijjfnnaaDoor
open Go.RowKit Bs
set_option linter.unusedVariables false
theorem set_oth (W : World) (v : Value) {g o b : Nat} (h : b ≠ g) : (W.setCell ⟨g, o, none⟩ v).heap[b]? = W.heap[b]? := Below.heap_setCell _ _ _ _ h
theorem cell_oth {W : World} {g o : Nat} {v : Value} {b j : Nat} (h : b ≠ g) : (W.setCell ⟨g, o, none⟩ v).cell? ⟨b, j, none⟩ = W.cell? ⟨b, j, none⟩ := World.cell?_of_block (w := W) (a := ⟨b, j, none⟩) (set_oth W v h)
theorem below_st {B : Nat} {a w : World} (h : Below B a w) (b o : Nat) (v : Value) (hb : B ≤ b) : Below B a (w.setCell ⟨b, o, none⟩ v) :=
  ⟨h.os, h.tape, h.output, by simpa using h.size, fun k hk => (set_oth w v (show k ≠ b by omega)).trans (h.block k hk)⟩
theorem results_cell1 {fn : Func} {p : Tmp} {ty : TypeId} (h : fn.results = #[.cell p ty]) (tmps : Array Value) (P : Program) (w : World) :
    (results fn tmps).run P w = ((asAddr (tmps.getD p undef)).run P w).andThen fun a w₁ => (loadVar ty a).run P w₁ := by
  simp only [results, h]
  simp [Sem.run_bind, Result.andThen]
theorem own_set {w : World} {base n : Nat} {e : TypeId} {sz : Nat} {v : Value} {xs : List Value} (o : w.ownsRow base e sz v n xs) {g k : Nat} (u : Value) (h : v.ownBlock ≠ some g) : (w.setCell ⟨g, k, none⟩ u).ownsRow base e sz v n xs :=
  o.kept (row := some g) ⟨rfl, rfl, rfl, by simp, fun k _ hk => set_oth w u (fun e => hk (by rw [e]))⟩ (Or.inr h)
/-- Two sets and the answer's in their boxes. -/
structure Bq (w W : World) (na nb : Int) (va vb : Value) : Prop where
  a0 : W.cell? ⟨w.heap.size, 0, none⟩ = some (.int .i64 na)
  a1 : W.cell? ⟨w.heap.size, 1, none⟩ = some va
  b0 : W.cell? ⟨w.heap.size + 1, 0, none⟩ = some (.int .i64 nb)
  b1 : W.cell? ⟨w.heap.size + 1, 1, none⟩ = some vb
  r : W.heap[w.heap.size + 1 + 1]? = some (.cells #[.int .i64 0, .slice none 0 0] 30 (0, 0))
  lt : w.heap.size + 1 + 1 < W.heap.size
  low : Below w.heap.size w W
theorem Bq.new (w : World) (na nb : Int) (va vb : Value) : Bq w (((w.alloc (.cells #[.int .i64 na, va] 30)).alloc (.cells #[.int .i64 nb, vb] 30)).alloc (.cells #[.int .i64 0, .slice none 0 0] 30)) na nb va vb := by
  have h2 : (((w.alloc (.cells #[.int .i64 na, va] 30)).alloc (.cells #[.int .i64 nb, vb] 30)).alloc (.cells #[.int .i64 0, .slice none 0 0] 30)).heap[w.heap.size]? = some (.cells #[.int .i64 na, va] 30) := by
    rw [heap_alloc_old _ _ (by simp; omega), heap_alloc_old _ _ (by simp)]; exact heap_alloc_new w _
  have h1 : (((w.alloc (.cells #[.int .i64 na, va] 30)).alloc (.cells #[.int .i64 nb, vb] 30)).alloc (.cells #[.int .i64 0, .slice none 0 0] 30)).heap[w.heap.size + 1]? = some (.cells #[.int .i64 nb, vb] 30) := by
    rw [heap_alloc_old _ _ (by simp)]
    have := heap_alloc_new (w.alloc (.cells #[.int .i64 na, va] 30)) (.cells #[.int .i64 nb, vb] 30)
    simpa using this
  have h0 : (((w.alloc (.cells #[.int .i64 na, va] 30)).alloc (.cells #[.int .i64 nb, vb] 30)).alloc (.cells #[.int .i64 0, .slice none 0 0] 30)).heap[w.heap.size + 1 + 1]? = some (.cells #[.int .i64 0, .slice none 0 0] 30) := by
    have := heap_alloc_new ((w.alloc (.cells #[.int .i64 na, va] 30)).alloc (.cells #[.int .i64 nb, vb] 30)) (.cells #[.int .i64 0, .slice none 0 0] 30)
    simpa using this
  refine ⟨?_, ?_, ?_, ?_, h0, by simp, ((lowAlloc w _).alloc (by simp) _).alloc (by simp; omega) _⟩
  · rw [cell_of_row _ _ 0 _ _ _ h2]; rfl
  · rw [cell_of_row _ _ 1 _ _ _ h2]; rfl
  · rw [cell_of_row _ _ 0 _ _ _ h1]; rfl
  · rw [cell_of_row _ _ 1 _ _ _ h1]; rfl
theorem Bq.on {w W W' : World} {na nb : Int} {va vb : Value} (h : Bq w W na nb va vb) (k : Below W.heap.size W W') : Bq w W' na nb va vb := by
  have l := h.lt
  exact ⟨(k.cell (p := ⟨w.heap.size, 0, none⟩) (Nat.lt_of_succ_lt (Nat.lt_of_succ_lt l))).trans h.a0, (k.cell (p := ⟨w.heap.size, 1, none⟩) (Nat.lt_of_succ_lt (Nat.lt_of_succ_lt l))).trans h.a1, (k.cell (p := ⟨w.heap.size + 1, 0, none⟩) (Nat.lt_of_succ_lt l)).trans h.b0, (k.cell (p := ⟨w.heap.size + 1, 1, none⟩) (Nat.lt_of_succ_lt l)).trans h.b1, (k.block _ l).trans h.r, Nat.lt_of_lt_of_le l k.size, belowT h.low k⟩
def rc (w : World) (k : Nat) : Addr := ⟨w.heap.size + 1 + 1, k, none⟩
theorem Bq.r0 {w W : World} {na nb : Int} {va vb : Value} (h : Bq w W na nb va vb) : W.cell? ⟨w.heap.size + 1 + 1, 0, none⟩ = some (.int .i64 0) := by rw [cell_of_row _ _ 0 _ _ _ h.r]; rfl
theorem Bq.r1 {w W : World} {na nb : Int} {va vb : Value} (h : Bq w W na nb va vb) : W.cell? ⟨w.heap.size + 1 + 1, 1, none⟩ = some (.slice none 0 0) := by rw [cell_of_row _ _ 1 _ _ _ h.r]; rfl
theorem Bq.f0 {w W : World} {na nb : Int} {va vb : Value} (h : Bq w W na nb va vb) : W.frozen? ⟨w.heap.size + 1 + 1, 0, none⟩ = false := frozen_of_row _ _ 0 _ _ h.r
theorem Bq.f1 {w W : World} {na nb : Int} {va vb : Value} (h : Bq w W na nb va vb) : W.frozen? ⟨w.heap.size + 1 + 1, 1, none⟩ = false := frozen_of_row _ _ 1 _ _ h.r
set_option maxRecDepth 100000 in
set_option maxHeartbeats 2000000 in
theorem dlarger (na nb : Nat) (va vb : Value) (w : World) :
    Calls Tryd.prog 95 #[.agg #[.int .i64 na, va], .agg #[.int .i64 nb, vb]] w fun e w' => e = .returned (.int .i64 ((max na nb : Nat) : Int)) ∧ Below w.heap.size w w' := by
  have HB := hid ((lowAlloc w (.cells #[.int .i64 na, va] 30)).alloc (by simp) (.cells #[.int .i64 nb, vb] 30))
  obtain ⟨m, hm⟩ : ∃ m, m = max na nb := ⟨_, rfl⟩
  rw [← hm]
  have HM := hid hm
  clear hm
  go_enter Tryd.func95, Tryd.ntmps95
  by_cases h : (nb : Int) < (na : Int)
  · have h' : nb < na := by omega
    go_wp2_with fail
    go_ret
    exact ⟨by rw [HM.out, Nat.max_eq_left (by omega)]; rfl, HB.out⟩
  · have h' : ¬ nb < na := by omega
    go_wp2_with fail
    go_ret
    exact ⟨by rw [HM.out, Nat.max_eq_right (by omega)]; rfl, HB.out⟩
end Go.Proofs.YtkagdmhijjfnnaaDoor
namespace Go.Proofs.YtkagdmhijjfnnaaDoor
open Go.RowKit Bs
set_option linter.unusedVariables false
theorem own_form {w : World} {base : Nat} {v : Value} {zs : List Int} (h : OwnI w base v zs) : ∃ a cap, v = .slice a zs.length cap := by
  rcases h.2 with ⟨e, h0⟩ | ⟨g, cap, cur, e, _⟩
  · exact ⟨none, 0, by rw [e, h0]⟩
  · exact ⟨_, cap, e⟩
theorem own_far {w : World} {base : Nat} {v : Value} {zs : List Int} (h : OwnI w base v zs) {g : Nat} (hg : g < base) : v.ownBlock ≠ some g := fun e => by
  have := owns_block h g e
  omega
theorem own_mono {w : World} {base base' : Nat} {v : Value} {zs : List Int} (h : OwnI w base v zs) (hb : base' ≤ base) : OwnI w base' v zs := by
  refine ⟨h.1, ?_⟩
  rcases h.2 with e | ⟨g, cap, cur, e, h1, h2⟩
  · exact Or.inl e
  · exact Or.inr ⟨g, cap, cur, e, Nat.le_trans hb h1, h2⟩
theorem belowDr (w : World) : Below w.heap.size w w.drew := ⟨rfl, rfl, rfl, Nat.le_refl _, fun _ _ => rfl⟩
theorem bxs_oth {W : World} {s : Nat} {v u : Value} {na nb va vb : Value} (h : W.cell? ⟨s, 0, none⟩ = some na ∧ W.cell? ⟨s, 1, none⟩ = some va ∧ W.cell? ⟨s + 1, 0, none⟩ = some nb ∧ W.cell? ⟨s + 1, 1, none⟩ = some vb) :
    ((W.setCell ⟨s + 1 + 1, 0, none⟩ v).setCell ⟨s + 1 + 1, 1, none⟩ u).cell? ⟨s, 0, none⟩ = some na ∧ ((W.setCell ⟨s + 1 + 1, 0, none⟩ v).setCell ⟨s + 1 + 1, 1, none⟩ u).cell? ⟨s, 1, none⟩ = some va ∧ ((W.setCell ⟨s + 1 + 1, 0, none⟩ v).setCell ⟨s + 1 + 1, 1, none⟩ u).cell? ⟨s + 1, 0, none⟩ = some nb ∧ ((W.setCell ⟨s + 1 + 1, 0, none⟩ v).setCell ⟨s + 1 + 1, 1, none⟩ u).cell? ⟨s + 1, 1, none⟩ = some vb :=
  ⟨(cell_oth (by omega)).trans ((cell_oth (by omega)).trans h.1), (cell_oth (by omega)).trans ((cell_oth (by omega)).trans h.2.1), (cell_oth (by omega)).trans ((cell_oth (by omega)).trans h.2.2.1), (cell_oth (by omega)).trans ((cell_oth (by omega)).trans h.2.2.2)⟩
set_option maxRecDepth 100000 in
set_option maxHeartbeats 4000000 in
theorem dand (na nb : Nat) (a b : Option Addr) (ca cb : Nat) (A B : List Int) (w : World) (ha : Rd w a A) (hb : Rd w b B) (hA : A.length ≤ 65536) (hB : B.length ≤ 65536) :
    Calls Tryd.prog 70 #[.agg #[.int .i64 (na : Int), .slice a A.length ca], .agg #[.int .i64 (nb : Int), .slice b B.length cb]] w fun e w' => ∃ v, e = .returned (.agg #[.int .i64 ((max na nb : Nat) : Int), v]) ∧ OwnI w' w.heap.size v (pk false false true A B) ∧ Below w.heap.size w w' := by
  have HK := hid (fun W (h : Below w.heap.size w W) => dpick false false true a b ca cb A B W (ha.low h (Nat.le_refl _)) (hb.low h (Nat.le_refl _)) hA hB)
  have X0 := hid (Bq.new w (na : Int) (nb : Int) (.slice a A.length ca) (.slice b B.length cb))
  clear ha hb hA hB
  generalize A.length = la at *
  generalize B.length = lb at *
  have LG := hid (fun W => dlarger na nb (.slice a la ca) (.slice b lb cb) W)
  generalize max na nb = m at *
  go_enter Tryd.func70, Tryd.ntmps70
  go_wp2_with fail
  generalize ((w.alloc _).alloc _).alloc _ = X at *
  have t0 := X0.out.a0
  have t1 := X0.out.a1
  have t2 := X0.out.b0
  have t3 := X0.out.b1
  have Y0 := hid (X0.out.on (belowDr X))
  go_region_held3 (fun Y => Y.cell? ⟨w.heap.size, 0, none⟩ = some (.int .i64 (na : Int)) ∧ Y.cell? ⟨w.heap.size, 1, none⟩ = some (.slice a la ca) ∧ Y.cell? ⟨w.heap.size + 1, 0, none⟩ = some (.int .i64 (nb : Int)) ∧ Y.cell? ⟨w.heap.size + 1, 1, none⟩ = some (.slice b lb cb))
    (first | exact ⟨t0, t1, t2, t3⟩ | exact T2 | exact T3 | exact bxs_oth T3 | go_keep)
    (first
      | (go_at_call 95; refine (LG.out _).mono ?_; rintro e w2 ⟨rfl, hb2⟩
         have Y2 := hid (Y0.out.on hb2)
         have T2 := And.intro Y2.out.a0 (And.intro Y2.out.a1 (And.intro Y2.out.b0 Y2.out.b1))
         clear hb2)
      | (go_at_call 96; refine (HK.out _ Y2.out.low).mono ?_; rintro e w3 ⟨v, rfl, ho, hb3⟩
         have Y3 := hid (Y2.out.on hb3)
         have T3 := And.intro Y3.out.a0 (And.intro Y3.out.a1 (And.intro Y3.out.b0 Y3.out.b1))
         have r0 := Y3.out.r0
         have r1 := Y3.out.r1
         have f0 := Y3.out.f0
         have f1 := Y3.out.f1
         obtain ⟨av, cv, hv⟩ := own_form ho
         subst hv
         have O3 := hid (own_mono ho (Nat.le_trans (Nat.le_of_lt (Nat.lt_trans (Nat.lt_succ_self _) (Nat.lt_trans (Nat.lt_succ_self _) Y2.out.lt))) (Nat.le_refl _)))
         have F3 := hid (own_far ho Y2.out.lt)
         clear hb3 ho))
  go_wp2_with fail
  refine bodyPost_ret (v := .agg #[.int .i64 (m : Int), .slice av _ cv]) ?_ rfl ⟨_, rfl, own_set (own_set O3.out _ F3.out) _ F3.out, below_st (below_st Y3.out.low _ _ _ (by omega)) _ _ _ (by omega)⟩
  rw [results_cell1 rfl]
  go_simp
set_option maxRecDepth 100000 in
set_option maxHeartbeats 4000000 in
theorem dor (na nb : Nat) (a b : Option Addr) (ca cb : Nat) (A B : List Int) (w : World) (ha : Rd w a A) (hb : Rd w b B) (hA : A.length ≤ 65536) (hB : B.length ≤ 65536) :
    Calls Tryd.prog 71 #[.agg #[.int .i64 (na : Int), .slice a A.length ca], .agg #[.int .i64 (nb : Int), .slice b B.length cb]] w fun e w' => ∃ v, e = .returned (.agg #[.int .i64 ((max na nb : Nat) : Int), v]) ∧ OwnI w' w.heap.size v (pk true true true A B) ∧ Below w.heap.size w w' := by
  have HK := hid (fun W (h : Below w.heap.size w W) => dpick true true true a b ca cb A B W (ha.low h (Nat.le_refl _)) (hb.low h (Nat.le_refl _)) hA hB)
  have X0 := hid (Bq.new w (na : Int) (nb : Int) (.slice a A.length ca) (.slice b B.length cb))
  clear ha hb hA hB
  generalize A.length = la at *
  generalize B.length = lb at *
  have LG := hid (fun W => dlarger na nb (.slice a la ca) (.slice b lb cb) W)
  generalize max na nb = m at *
  go_enter Tryd.func71, Tryd.ntmps71
  go_wp2_with fail
  generalize ((w.alloc _).alloc _).alloc _ = X at *
  have t0 := X0.out.a0
  have t1 := X0.out.a1
  have t2 := X0.out.b0
  have t3 := X0.out.b1
  have Y0 := hid (X0.out.on (belowDr X))
  go_region_held3 (fun Y => Y.cell? ⟨w.heap.size, 0, none⟩ = some (.int .i64 (na : Int)) ∧ Y.cell? ⟨w.heap.size, 1, none⟩ = some (.slice a la ca) ∧ Y.cell? ⟨w.heap.size + 1, 0, none⟩ = some (.int .i64 (nb : Int)) ∧ Y.cell? ⟨w.heap.size + 1, 1, none⟩ = some (.slice b lb cb))
    (first | exact ⟨t0, t1, t2, t3⟩ | exact T2 | exact T3 | exact bxs_oth T3 | go_keep)
    (first
      | (go_at_call 95; refine (LG.out _).mono ?_; rintro e w2 ⟨rfl, hb2⟩
         have Y2 := hid (Y0.out.on hb2)
         have T2 := And.intro Y2.out.a0 (And.intro Y2.out.a1 (And.intro Y2.out.b0 Y2.out.b1))
         clear hb2)
      | (go_at_call 96; refine (HK.out _ Y2.out.low).mono ?_; rintro e w3 ⟨v, rfl, ho, hb3⟩
         have Y3 := hid (Y2.out.on hb3)
         have T3 := And.intro Y3.out.a0 (And.intro Y3.out.a1 (And.intro Y3.out.b0 Y3.out.b1))
         have r0 := Y3.out.r0
         have r1 := Y3.out.r1
         have f0 := Y3.out.f0
         have f1 := Y3.out.f1
         obtain ⟨av, cv, hv⟩ := own_form ho
         subst hv
         have O3 := hid (own_mono ho (Nat.le_trans (Nat.le_of_lt (Nat.lt_trans (Nat.lt_succ_self _) (Nat.lt_trans (Nat.lt_succ_self _) Y2.out.lt))) (Nat.le_refl _)))
         have F3 := hid (own_far ho Y2.out.lt)
         clear hb3 ho))
  go_wp2_with fail
  refine bodyPost_ret (v := .agg #[.int .i64 (m : Int), .slice av _ cv]) ?_ rfl ⟨_, rfl, own_set (own_set O3.out _ F3.out) _ F3.out, below_st (below_st Y3.out.low _ _ _ (by omega)) _ _ _ (by omega)⟩
  rw [results_cell1 rfl]
  go_simp
set_option maxRecDepth 100000 in
set_option maxHeartbeats 4000000 in
theorem dandnot (na nb : Nat) (a b : Option Addr) (ca cb : Nat) (A B : List Int) (w : World) (ha : Rd w a A) (hb : Rd w b B) (hA : A.length ≤ 65536) (hB : B.length ≤ 65536) :
    Calls Tryd.prog 72 #[.agg #[.int .i64 (na : Int), .slice a A.length ca], .agg #[.int .i64 (nb : Int), .slice b B.length cb]] w fun e w' => ∃ v, e = .returned (.agg #[.int .i64 ((max na nb : Nat) : Int), v]) ∧ OwnI w' w.heap.size v (pk true false false A B) ∧ Below w.heap.size w w' := by
  have HK := hid (fun W (h : Below w.heap.size w W) => dpick true false false a b ca cb A B W (ha.low h (Nat.le_refl _)) (hb.low h (Nat.le_refl _)) hA hB)
  have X0 := hid (Bq.new w (na : Int) (nb : Int) (.slice a A.length ca) (.slice b B.length cb))
  clear ha hb hA hB
  generalize A.length = la at *
  generalize B.length = lb at *
  have LG := hid (fun W => dlarger na nb (.slice a la ca) (.slice b lb cb) W)
  generalize max na nb = m at *
  go_enter Tryd.func72, Tryd.ntmps72
  go_wp2_with fail
  generalize ((w.alloc _).alloc _).alloc _ = X at *
  have t0 := X0.out.a0
  have t1 := X0.out.a1
  have t2 := X0.out.b0
  have t3 := X0.out.b1
  have Y0 := hid (X0.out.on (belowDr X))
  go_region_held3 (fun Y => Y.cell? ⟨w.heap.size, 0, none⟩ = some (.int .i64 (na : Int)) ∧ Y.cell? ⟨w.heap.size, 1, none⟩ = some (.slice a la ca) ∧ Y.cell? ⟨w.heap.size + 1, 0, none⟩ = some (.int .i64 (nb : Int)) ∧ Y.cell? ⟨w.heap.size + 1, 1, none⟩ = some (.slice b lb cb))
    (first | exact ⟨t0, t1, t2, t3⟩ | exact T2 | exact T3 | exact bxs_oth T3 | go_keep)
    (first
      | (go_at_call 95; refine (LG.out _).mono ?_; rintro e w2 ⟨rfl, hb2⟩
         have Y2 := hid (Y0.out.on hb2)
         have T2 := And.intro Y2.out.a0 (And.intro Y2.out.a1 (And.intro Y2.out.b0 Y2.out.b1))
         clear hb2)
      | (go_at_call 96; refine (HK.out _ Y2.out.low).mono ?_; rintro e w3 ⟨v, rfl, ho, hb3⟩
         have Y3 := hid (Y2.out.on hb3)
         have T3 := And.intro Y3.out.a0 (And.intro Y3.out.a1 (And.intro Y3.out.b0 Y3.out.b1))
         have r0 := Y3.out.r0
         have r1 := Y3.out.r1
         have f0 := Y3.out.f0
         have f1 := Y3.out.f1
         obtain ⟨av, cv, hv⟩ := own_form ho
         subst hv
         have O3 := hid (own_mono ho (Nat.le_trans (Nat.le_of_lt (Nat.lt_trans (Nat.lt_succ_self _) (Nat.lt_trans (Nat.lt_succ_self _) Y2.out.lt))) (Nat.le_refl _)))
         have F3 := hid (own_far ho Y2.out.lt)
         clear hb3 ho))
  go_wp2_with fail
  refine bodyPost_ret (v := .agg #[.int .i64 (m : Int), .slice av _ cv]) ?_ rfl ⟨_, rfl, own_set (own_set O3.out _ F3.out) _ F3.out, below_st (below_st Y3.out.low _ _ _ (by omega)) _ _ _ (by omega)⟩
  rw [results_cell1 rfl]
  go_simp
set_option maxRecDepth 100000 in
set_option maxHeartbeats 4000000 in
theorem dxor (na nb : Nat) (a b : Option Addr) (ca cb : Nat) (A B : List Int) (w : World) (ha : Rd w a A) (hb : Rd w b B) (hA : A.length ≤ 65536) (hB : B.length ≤ 65536) :
    Calls Tryd.prog 73 #[.agg #[.int .i64 (na : Int), .slice a A.length ca], .agg #[.int .i64 (nb : Int), .slice b B.length cb]] w fun e w' => ∃ v, e = .returned (.agg #[.int .i64 ((max na nb : Nat) : Int), v]) ∧ OwnI w' w.heap.size v (pk true true false A B) ∧ Below w.heap.size w w' := by
  have HK := hid (fun W (h : Below w.heap.size w W) => dpick true true false a b ca cb A B W (ha.low h (Nat.le_refl _)) (hb.low h (Nat.le_refl _)) hA hB)
  have X0 := hid (Bq.new w (na : Int) (nb : Int) (.slice a A.length ca) (.slice b B.length cb))
  clear ha hb hA hB
  generalize A.length = la at *
  generalize B.length = lb at *
  have LG := hid (fun W => dlarger na nb (.slice a la ca) (.slice b lb cb) W)
  generalize max na nb = m at *
  go_enter Tryd.func73, Tryd.ntmps73
  go_wp2_with fail
  generalize ((w.alloc _).alloc _).alloc _ = X at *
  have t0 := X0.out.a0
  have t1 := X0.out.a1
  have t2 := X0.out.b0
  have t3 := X0.out.b1
  have Y0 := hid (X0.out.on (belowDr X))
  go_region_held3 (fun Y => Y.cell? ⟨w.heap.size, 0, none⟩ = some (.int .i64 (na : Int)) ∧ Y.cell? ⟨w.heap.size, 1, none⟩ = some (.slice a la ca) ∧ Y.cell? ⟨w.heap.size + 1, 0, none⟩ = some (.int .i64 (nb : Int)) ∧ Y.cell? ⟨w.heap.size + 1, 1, none⟩ = some (.slice b lb cb))
    (first | exact ⟨t0, t1, t2, t3⟩ | exact T2 | exact T3 | exact bxs_oth T3 | go_keep)
    (first
      | (go_at_call 95; refine (LG.out _).mono ?_; rintro e w2 ⟨rfl, hb2⟩
         have Y2 := hid (Y0.out.on hb2)
         have T2 := And.intro Y2.out.a0 (And.intro Y2.out.a1 (And.intro Y2.out.b0 Y2.out.b1))
         clear hb2)
      | (go_at_call 96; refine (HK.out _ Y2.out.low).mono ?_; rintro e w3 ⟨v, rfl, ho, hb3⟩
         have Y3 := hid (Y2.out.on hb3)
         have T3 := And.intro Y3.out.a0 (And.intro Y3.out.a1 (And.intro Y3.out.b0 Y3.out.b1))
         have r0 := Y3.out.r0
         have r1 := Y3.out.r1
         have f0 := Y3.out.f0
         have f1 := Y3.out.f1
         obtain ⟨av, cv, hv⟩ := own_form ho
         subst hv
         have O3 := hid (own_mono ho (Nat.le_trans (Nat.le_of_lt (Nat.lt_trans (Nat.lt_succ_self _) (Nat.lt_trans (Nat.lt_succ_self _) Y2.out.lt))) (Nat.le_refl _)))
         have F3 := hid (own_far ho Y2.out.lt)
         clear hb3 ho))
  go_wp2_with fail
  refine bodyPost_ret (v := .agg #[.int .i64 (m : Int), .slice av _ cv]) ?_ rfl ⟨_, rfl, own_set (own_set O3.out _ F3.out) _ F3.out, below_st (below_st Y3.out.low _ _ _ (by omega)) _ _ _ (by omega)⟩
  rw [results_cell1 rfl]
  go_simp
end Go.Proofs.YtkagdmhijjfnnaaDoor
