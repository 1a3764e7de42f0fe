import Derived.Test.YtcldglilhhhdoaaGreatDoorMgAT
import Derived.Test.YtcldglilhhhdoaaGreatDoorPcT
import Derived.Laws.MakeOwn
import Derived.Deep.CutRange
namespace Go.Proofs.YtcldglilhhhdoaaGreatDoor.L
open Go.RowKit
set_option linter.unusedVariables false
set_option linter.unusedSimpArgs false
set_option maxHeartbeats 4000000 in
set_option maxRecDepth 100000 in
theorem gap_yes (n : Nat) (w : World) : Calls Tryz.prog 18 #[.int .i64 (n : Int)] w fun e w' => e = .returned (.string (gpn n)) ∧ w' = w := by
  unfold gpn
  have h5 : n % 5 = 0 ∨ n % 5 = 1 ∨ n % 5 = 2 ∨ n % 5 = 3 ∨ n % 5 = 4 := by omega
  rcases h5 with hr | hr | hr | hr | hr
  · simp only [hr]
    (try simp only [if_true, if_false, Nat.reduceEqDiff, reduceIte, OfNat.ofNat_ne_zero])
    have ht : ((n : Int).tmod 5) = 0 := by rw [Int.tmod_eq_emod_of_nonneg (by omega)]; omega
    have ht2 : ((n : Int) % 5) = 0 := by omega
    clear hr
    go_enter Tryz.func18, Tryz.ntmps18
    go_wp2
    go_ret
    exact ⟨rfl, rfl⟩
  · simp only [hr]
    (try simp only [if_true, if_false, Nat.reduceEqDiff, reduceIte, OfNat.ofNat_ne_zero])
    have ht : ((n : Int).tmod 5) = 1 := by rw [Int.tmod_eq_emod_of_nonneg (by omega)]; omega
    have ht2 : ((n : Int) % 5) = 1 := by omega
    clear hr
    go_enter Tryz.func18, Tryz.ntmps18
    go_wp2
    go_ret
    exact ⟨rfl, rfl⟩
  · simp only [hr]
    (try simp only [if_true, if_false, Nat.reduceEqDiff, reduceIte, OfNat.ofNat_ne_zero])
    have ht : ((n : Int).tmod 5) = 2 := by rw [Int.tmod_eq_emod_of_nonneg (by omega)]; omega
    have ht2 : ((n : Int) % 5) = 2 := by omega
    clear hr
    go_enter Tryz.func18, Tryz.ntmps18
    go_wp2
    go_ret
    exact ⟨rfl, rfl⟩
  · simp only [hr]
    (try simp only [if_true, if_false, Nat.reduceEqDiff, reduceIte, OfNat.ofNat_ne_zero])
    have ht : ((n : Int).tmod 5) = 3 := by rw [Int.tmod_eq_emod_of_nonneg (by omega)]; omega
    have ht2 : ((n : Int) % 5) = 3 := by omega
    clear hr
    go_enter Tryz.func18, Tryz.ntmps18
    go_wp2
    go_ret
    exact ⟨rfl, rfl⟩
  · simp only [hr]
    (try simp only [if_true, if_false, Nat.reduceEqDiff, reduceIte, OfNat.ofNat_ne_zero])
    have ht : ((n : Int).tmod 5) = 4 := by rw [Int.tmod_eq_emod_of_nonneg (by omega)]; omega
    have ht2 : ((n : Int) % 5) = 4 := by omega
    clear hr
    go_enter Tryz.func18, Tryz.ntmps18
    go_wp2
    go_ret
    exact ⟨rfl, rfl⟩
set_option maxHeartbeats 4000000 in
set_option maxRecDepth 100000 in
theorem same_tree (a b : Option Addr) (T : List Pt) (ca cb : Nat) (w : World) (hA : PL w a T) (hB : PL w b T) (hn : T.length ≤ 1000) (hk : ∀ j, j < T.length → (pt T j).kids.length ≤ 1000000) :
    Calls Tryz.prog 13 #[.agg #[.slice a T.length ca], .agg #[.slice b T.length cb]] w fun e w' => e = .returned (.bool true) ∧ Below w.heap.size w w' := by
  obtain ⟨L, hL⟩ : ∃ L, L = T.length := ⟨_, rfl⟩
  have HA := hid hA
  have HB := hid hB
  have HL := hid hL
  have HK := hid hk
  rw [← hL] at hn ⊢
  have hLm : L ≤ maxLen := by unfold maxLen; omega
  have e0 : ((L : Int) != (L : Int)) = false := by simp
  clear hA hB hL hk
  have HB2 := hid (show Below w.heap.size w ((w.alloc (.cells #[.slice a L ca] 25)).alloc (.cells #[.slice b L cb] 25)) from (belowA w _).trans ((belowA _ _).mono (belowA w _).size))
  have HX1 := hid (show ((w.alloc (.cells #[.slice a L ca] 25)).alloc (.cells #[.slice b L cb] 25)).heap[w.heap.size]? = some (.cells #[.slice a L ca] 25 (0, 0)) from ((belowA (w.alloc (.cells #[.slice a L ca] 25)) _).block _ (by simp)).trans (heap_alloc_new w _))
  have HX2 := hid (show ((w.alloc (.cells #[.slice a L ca] 25)).alloc (.cells #[.slice b L cb] 25)).heap[w.heap.size + 1]? = some (.cells #[.slice b L cb] 25 (0, 0)) from (by have h1 := heap_alloc_new (w.alloc (.cells #[.slice a L ca] 25)) (.cells #[.slice b L cb] 25); rw [World.size_alloc] at h1; exact h1))
  go_enter Tryz.func13, Tryz.ntmps13
  go_upto_region 1 with fail
  generalize ((w.alloc (.cells #[.slice a L ca] 25)).alloc (.cells #[.slice b L cb] 25)) = X at *
  have HPA := hid (HA.out.low HB2.out)
  have HPB := hid (HB.out.low HB2.out)
  generalize hb0 : w.heap.size = b0 at *
  have HB0 := hid hb0
  clear hb0
  have x1 : X.cell? ⟨b0, 0, none⟩ = some (.slice a L ca) := cell_of_row _ _ 0 _ _ _ HX1.out
  have x2 : X.cell? ⟨b0 + 1, 0, none⟩ = some (.slice b L cb) := cell_of_row _ _ 0 _ _ _ HX2.out
  go_wp2_with fail
  clear x1 x2
  go_loopw [5] (fun i wr => ∃ k : Nat, k ≤ L ∧ i = .int .i64 k ∧ Hid (Below X.heap.size X wr)) (fun i _ => L - (intOf i).toNat)
  case atStart => exact ⟨0, Nat.zero_le _, rfl, hid (Below.refl _ _)⟩
  case round =>
    obtain ⟨k, hk, rfl, HBW⟩ := hrel
    have x1 : wr.cell? ⟨b0, 0, none⟩ = some (.slice a L ca) := (HBW.out.cell (p := ⟨b0, 0, none⟩) (lt_blk HX1.out)).trans (cell_of_row _ _ 0 _ _ _ HX1.out)
    by_cases hlt : k < L
    · rcases HPA.out.low HBW.out with h9 | ⟨ga, oa, rfl, hga, hca⟩
      · have := HL.out; omega
      obtain ⟨ka, kc, q0, q1, q2, q3, rka⟩ := hca k (by rw [← HL.out]; exact hlt)
      rcases HPB.out.low HBW.out with h9 | ⟨gb, ob, rfl, hgb, hcb⟩
      · have := HL.out; omega
      obtain ⟨la, lc, r0, r1, r2, r3, rkb⟩ := hcb k (by rw [← HL.out]; exact hlt)
      have hkn := HK.out k (by rw [← HL.out]; exact hlt)
      clear hca hcb
      generalize (pt T k).kind = kd at *
      generalize (pt T k).text = tx at *
      generalize (pt T k).num = nu at *
      generalize (pt T k).kids = kids at *
      obtain ⟨kn, hkl⟩ : ∃ kn, kn = kids.length := ⟨_, rfl⟩
      rw [← hkl] at q3 r3 hkn
      have HKL := hid hkl
      have RKA := hid rka
      have RKB := hid rkb
      clear hkl rka rkb
      have g1 : (k : Int) < (L : Int) := by omega
      have g2 : (0 : Int) ≤ (k : Int) := by omega
      have hkm : kn ≤ maxLen := by unfold maxLen; omega
      go_upto_region 7 with fail
      have HY1 := hid (heap_alloc_new wr (.cells #[.int .i64 kd, .string tx, .int .i64 nu, .slice ka kn kc] 46))
      have HC1 := hid (belowA wr (.cells #[.int .i64 kd, .string tx, .int .i64 nu, .slice ka kn kc] 46))
      have BX1 := hid (HBW.out.trans (HC1.out.mono HBW.out.size))
      have RKA1 := hid (RKA.out.low HC1.out (Nat.le_refl _))
      have RKB1 := hid (RKB.out.low HC1.out (Nat.le_refl _))
      replace r0 := (HC1.out.cell (p := ⟨gb, ob + k * 4, none⟩) hgb).trans r0
      replace r1 := (HC1.out.cell (p := ⟨gb, ob + k * 4 + 1, none⟩) hgb).trans r1
      replace r2 := (HC1.out.cell (p := ⟨gb, ob + k * 4 + 2, none⟩) hgb).trans r2
      replace r3 := (HC1.out.cell (p := ⟨gb, ob + k * 4 + 3, none⟩) hgb).trans r3
      generalize wr.alloc (.cells #[.int .i64 kd, .string tx, .int .i64 nu, .slice ka kn kc] 46) = V1 at *
      generalize wr.heap.size = c1 at *
      clear x1 q0 q1 q2 q3
      have x2 : V1.cell? ⟨b0 + 1, 0, none⟩ = some (.slice (some ⟨gb, ob, none⟩) L cb) := (BX1.out.cell (p := ⟨b0 + 1, 0, none⟩) (lt_blk HX2.out)).trans (cell_of_row _ _ 0 _ _ _ HX2.out)
      go_upto_region 8 with fail
      have HY2 := hid (heap_alloc_new V1 (.cells #[.int .i64 kd, .string tx, .int .i64 nu, .slice la kn lc] 46))
      have HC2 := hid (belowA V1 (.cells #[.int .i64 kd, .string tx, .int .i64 nu, .slice la kn lc] 46))
      have BX2 := hid (BX1.out.trans (HC2.out.mono BX1.out.size))
      have RKA2 := hid (RKA1.out.low HC2.out (Nat.le_refl _))
      have RKB2 := hid (RKB1.out.low HC2.out (Nat.le_refl _))
      have HY12 := hid ((HC2.out.block _ (lt_blk HY1.out)).trans HY1.out)
      generalize V1.alloc (.cells #[.int .i64 kd, .string tx, .int .i64 nu, .slice la kn lc] 46) = V2 at *
      generalize V1.heap.size = c2 at *
      clear x2 r0 r1 r2 r3
      have y0 : V2.cell? ⟨c1, 0, none⟩ = some (.int .i64 kd) := cell_of_row _ _ 0 _ _ _ HY12.out
      have y1 : V2.cell? ⟨c1, 1, none⟩ = some (.string tx) := cell_of_row _ _ 1 _ _ _ HY12.out
      have y2 : V2.cell? ⟨c1, 2, none⟩ = some (.int .i64 nu) := cell_of_row _ _ 2 _ _ _ HY12.out
      have y3 : V2.cell? ⟨c1, 3, none⟩ = some (.slice ka kn kc) := cell_of_row _ _ 3 _ _ _ HY12.out
      have z0 : V2.cell? ⟨c2, 0, none⟩ = some (.int .i64 kd) := cell_of_row _ _ 0 _ _ _ HY2.out
      have z1 : V2.cell? ⟨c2, 1, none⟩ = some (.string tx) := cell_of_row _ _ 1 _ _ _ HY2.out
      have z2 : V2.cell? ⟨c2, 2, none⟩ = some (.int .i64 nu) := cell_of_row _ _ 2 _ _ _ HY2.out
      have z3 : V2.cell? ⟨c2, 3, none⟩ = some (.slice la kn lc) := cell_of_row _ _ 3 _ _ _ HY2.out
      have f1 : (kd != kd) = false := by simp
      have f2 : (tx.toList != tx.toList) = false := by simp
      have f3 : (nu != nu) = false := by simp
      have f4 : ((kn : Int) != (kn : Int)) = false := by simp
      go_wp2_with fail
      clear y0 y1 y2 y3 z0 z1 z2 z3
      go_loopw [8] (fun i wr2 => ∃ q : Nat, q ≤ kn ∧ i = .int .i64 q ∧ Hid (∃ m, wr2 = V2.drewN m)) (fun i _ => kn - (intOf i).toNat)
      case atStart => exact ⟨0, Nat.zero_le _, rfl, hid ⟨0, rfl⟩⟩
      case round =>
        obtain ⟨q, hq, rfl, HM⟩ := hrel
        obtain ⟨m0, hm0⟩ := HM.out
        have HMM := hid hm0
        clear HM
        have y3 : wr.cell? ⟨c1, 3, none⟩ = some (.slice ka kn kc) := by rw [hm0]; exact cell_of_row _ _ 3 _ _ _ HY12.out
        have z3 : wr.cell? ⟨c2, 3, none⟩ = some (.slice la kn lc) := by rw [hm0]; exact cell_of_row _ _ 3 _ _ _ HY2.out
        by_cases hqn : q < kn
        · rcases RKA2.out with h9 | ⟨ha, pa, rfl, hal, hac⟩
          · have := HKL.out; omega
          rcases RKB2.out with h9 | ⟨hb, pb2, rfl, hbl, hbc⟩
          · have := HKL.out; omega
          have p0 := hac q (by rw [← HKL.out]; exact hqn)
          have p1 := hbc q (by rw [← HKL.out]; exact hqn)
          have p0 : wr.cell? ⟨ha, pa + q, none⟩ = some (.int .i64 (kids.getD q 0)) := by rw [hm0]; exact p0
          have p1 : wr.cell? ⟨hb, pb2 + q, none⟩ = some (.int .i64 (kids.getD q 0)) := by rw [hm0]; exact p1
          clear hac hbc hm0
          generalize kids.getD q 0 = x at *
          have g3 : (q : Int) < (kn : Int) := by omega
          have g4 : (0 : Int) ≤ (q : Int) := by omega
          have g5 : (q : Int) ≤ 1000000 := by omega
          have f5 : (x != x) = false := by simp
          go_wp2_with fail
          go_quiet (fail)
          go_wp2_with fail
          refine ⟨⟨q + 1, by omega, by go_num, hid ⟨m0 + nq, by rw [HMM.out, World.drewN_drewN]⟩⟩, by simp [intOf]; omega⟩
        · obtain rfl : q = kn := by omega
          clear hm0
          go_wp2_with fail
          refine ⟨⟨k + 1, by omega, by go_num, hid (by rw [HMM.out]; exact below_drewN BX2.out _)⟩, by simp [intOf]; omega⟩
    · obtain rfl : k = L := by omega
      go_wp2_with fail
      go_ret
      exact ⟨rfl, by rw [HB0.out]; exact HB2.out.trans (HBW.out.mono (by have := lt_blk HX1.out; omega))⟩
end Go.Proofs.YtcldglilhhhdoaaGreatDoor.L
namespace Go.Proofs.YtcldglilhhhdoaaGreatDoor.L
open Go.RowKit
set_option linter.unusedVariables false
set_option linter.unusedSimpArgs false
theorem own_set {W : World} {base g L cap : Nat} {zs : List Int} (h : OwnI W base (.slice (some ⟨g, 0, none⟩) L cap) zs) (hL : L = zs.length) (x : Nat) (v : Int) :
    OwnI (W.setCell ⟨g, x, none⟩ (.int .i64 v)) base (.slice (some ⟨g, 0, none⟩) L cap) (zs.set x v) ∧ W.grownBy (W.setCell ⟨g, x, none⟩ (.int .i64 v)) (some g) := by
  subst hL
  have := World.ownsRow.stored h x (.int .i64 v)
  refine ⟨?_, this.2⟩
  unfold OwnI
  rw [List.length_set, List.map_set]
  exact this.1
theorem own_cell {W : World} {base g L cap : Nat} {zs : List Int} (h : OwnI W base (.slice (some ⟨g, 0, none⟩) L cap) zs) (hL : L = zs.length) (j : Nat) (hj : j < L) : W.cell? ⟨g, j, none⟩ = some (.int .i64 (zs.getD j 0)) ∧ W.frozen? ⟨g, j, none⟩ = false := by
  subst hL
  refine ⟨?_, World.ownsRow.frozenAt h j⟩
  rw [World.ownsRow.cellAt h j (by omega), List.getElem?_map, List.getElem?_eq_getElem hj, List.getD_eq_getElem?_getD, List.getElem?_eq_getElem hj]
  rfl
theorem make_ints (n : Nat) (hn : n ≤ 5000) (w : World) : (Instr.makeSlice 26 (.int .i64 (n : Int)) (.int .i64 (n : Int))).run Tryz.prog w = .ok (.slice (some ⟨w.heap.size, 0, none⟩) n n) (w.alloc (.cells (madeCells #[.int .i64 0] n) 3)) := by
  obtain ⟨i, hi, hz, hs, hb⟩ := info_parts info3
  have h := run_makeSlice (P := Tryz.prog) w 26 3 i (.int .i64 0) Tryz.underlying26 hi hz .i64 .i64 n n (by omega) (by omega) (by rw [hs]; omega) (by rw [hb]; omega) (by omega)
  rw [hs] at h
  simpa [Value.cells] using h
theorem own_made (w : World) (n base : Nat) (hn : n ≤ 5000) (hb : base ≤ w.heap.size) : OwnI (w.alloc (.cells (madeCells #[.int .i64 0] n) 3)) base (.slice (some ⟨w.heap.size, 0, none⟩) n n) (List.replicate n 0) := by
  have h := World.ownsRow_lit (base := base) (e := 3) (size := 1) w (madeCells #[.int .i64 0] n) n hb (by unfold maxLen; omega) (by rw [size_madeCells]; simp)
  unfold OwnI
  rw [List.length_replicate, List.map_replicate, ← toList_madeCells_one]
  exact h
/-- The number that chooses a gap. -/
def nof (z : Int) : Nat := if z < 0 then (-(z + 1)).toNat else z.toNat
def gof (gs : List Int) (i : Nat) : ByteArray := if gs.length = 0 then gpn 0 else gpn (nof (gs.getD (i % gs.length) 0))
theorem gof_gp (gs : List Int) (i : Nat) : Gp (gof gs i) := by unfold gof; split <;> exact gp_n _
theorem gof_le (gs : List Int) (i : Nat) : (gof gs i).size ≤ 18 := by unfold gof; split <;> exact gpn_le _
theorem pw_le {s : ByteArray} {gs : List Int} {T : List Tok} (hT : Tks s T) (hs : s.size ≤ 4096) : ∀ k, k ≤ T.length → (pw s (gof gs) T k).size ≤ k * 5000
  | 0, _ => Nat.zero_le _
  | k + 1, h => by
    have h1 := pw_le (gs := gs) hT hs k (by omega)
    have h2 := hT.in (k := k) (by omega)
    have h3 := pw_succ (g := gof gs) h2.1 h2.2
    have h4 := gof_le gs k
    omega
/-- What stands in the loop that writes the other source. -/
structure Bl (w : World) (src : ByteArray) (gs : List Int) (T : List Tok) (tg B mg M mc : Nat) (ga : Option Addr) (k : Nat) (wr : World) (ml : List Int) : Prop where
  low : Below w.heap.size w wr
  tok : ∀ j r, j < T.length → r < 5 → wr.cell? ⟨tg, j * 5 + r, none⟩ = ([.int .i64 ((tk T j).kind : Int), .string (tk T j).text, .int .i64 (tk T j).num, .int .i64 ((tk T j).a : Int), .int .i64 ((tk T j).e : Int)] : List Value)[r]?
  tlt : tg < wr.heap.size
  ne : tg ≠ mg
  own : OwnI wr B (.slice (some ⟨mg, 0, none⟩) M mc) ml
  len : M = ml.length
  base : w.heap.size ≤ B
  mv : ∀ j, j < k → ml.getD (tk T j).a 0 = (((pw src (gof gs) T j).size + (gof gs j).size : Nat) : Int)
  rd : RdI wr ga gs
  rlt : gs.length = 0 ∨ ∀ b off, ga = some ⟨b, off, none⟩ → b < w.heap.size
theorem Bl.drew {w : World} {src : ByteArray} {gs : List Int} {T : List Tok} {tg B mg M mc : Nat} {ga : Option Addr} {k : Nat} {wr : World} {ml : List Int} (h : Bl w src gs T tg B mg M mc ga k wr ml) (n : Nat) : Bl w src gs T tg B mg M mc ga k (wr.drewN n) ml :=
  ⟨below_drewN h.low n, h.tok, h.tlt, h.ne, own_low h.own (below_drewN (Below.refl _ wr) n), h.len, h.base, h.mv, h.rd.low (below_drewN (Below.refl _ wr) n) (Nat.le_refl _), h.rlt⟩
/-- A place is written. -/
theorem Bl.put {w : World} {src : ByteArray} {gs : List Int} {T : List Tok} {tg B mg M mc : Nat} {ga : Option Addr} {k : Nat} {wr : World} {ml : List Int} (h : Bl w src gs T tg B mg M mc ga k wr ml) (ha : ∀ j, j < k → (tk T j).a ≠ (tk T k).a) (hm : (tk T k).a < M) : Bl w src gs T tg B mg M mc ga (k + 1) (wr.setCell ⟨mg, (tk T k).a, none⟩ (.int .i64 (((pw src (gof gs) T k).size + (gof gs k).size : Nat) : Int))) (ml.set (tk T k).a (((pw src (gof gs) T k).size + (gof gs k).size : Nat) : Int)) := by
  have ⟨h1, h2⟩ := own_set h.own h.len (tk T k).a (((pw src (gof gs) T k).size + (gof gs k).size : Nat) : Int)
  have hmg := own_block h.own mg rfl
  have key : ∀ b, b < wr.heap.size → b ≠ mg → (wr.setCell ⟨mg, (tk T k).a, none⟩ (.int .i64 (((pw src (gof gs) T k).size + (gof gs k).size : Nat) : Int))).heap[b]? = wr.heap[b]? := fun b hb hne => h2.block b hb (fun e => hne (by injection e))
  refine ⟨⟨h2.os.trans h.low.os, h2.tape.trans h.low.tape, h2.output.trans h.low.output, Nat.le_trans h.low.size h2.size, fun b hb => (key b (Nat.lt_of_lt_of_le hb h.low.size) (by have := h.base; omega)).trans (h.low.block b hb)⟩, fun j r hj hr => ?_, Nat.lt_of_lt_of_le h.tlt h2.size, h.ne, h1, by rw [List.length_set]; exact h.len, h.base, fun j hj => ?_, ?_, h.rlt⟩
  · rw [← h.tok j r hj hr]
    exact World.cell?_of_block (key tg h.tlt h.ne)
  · by_cases e : j = k
    · subst e
      rw [List.getD_eq_getElem?_getD, List.getElem?_set_self (by rw [← h.len]; exact hm)]
      rfl
    · rw [List.getD_eq_getElem?_getD, List.getElem?_set_ne (fun e2 => ha j (by omega) e2.symm), ← List.getD_eq_getElem?_getD]
      exact h.mv j (by omega)
  · rcases h.rd with h0 | ⟨b, off, rfl, hb, hc⟩
    · exact Or.inl h0
    · rcases h.rlt with h0 | hlt
      · exact Or.inl h0
      have hbw := hlt b off rfl
      exact Or.inr ⟨b, off, rfl, Nat.lt_of_lt_of_le hb h2.size, fun j hj => (World.cell?_of_block (a := ⟨b, off + j, none⟩) (key b hb (by have := h.base; omega))).trans (hc j hj)⟩
theorem tks_rise {s : ByteArray} {T : List Tok} (hR : ∀ i j, i < j → j < T.length → (tk T i).e ≤ (tk T j).a) (hT : Tks s T) {i j : Nat} (hij : i < j) (hj : j < T.length) : (tk T i).a < (tk T j).a := by
  have h1 := hT.mid i (by omega)
  have h2 := tok_in h1.1 h1.2
  have h3 := hR i j hij hj
  omega
end Go.Proofs.YtcldglilhhhdoaaGreatDoor.L
