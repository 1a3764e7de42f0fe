import Derived.Test.YtnclpdgbjefpmaaJe
import Derived.Test.YtnclpdgbjefpmaaGr
namespace Go.Proofs.Ytnclpdgbjefpmaa.L
open Go.RowKit
set_option linter.unusedVariables false
set_option linter.unusedSimpArgs false
theorem dm_new {g ob j : Nat} {a : Option Addr} {cap : Nat} {B : List UInt8} {W1 : World} {k cd bd : Nat} {cs : Array Value} {t : TypeId} {v : Value} (h : Dm g a cap B W1 k cd bd) (hb : W1.heap[ob]? = some (.cells cs t (0, 0))) (hn : g < ob) : Dm g a cap B (W1.setCell ⟨ob, j, none⟩ v) k cd bd := by
  have e : ∀ q, q ≤ g → (W1.setCell ⟨ob, j, none⟩ v).heap[q]? = W1.heap[q]? := fun q hq => by
    rw [setCell_eq_setRow _ _ _ _ _ _ _ hb]
    exact setRow_other _ _ _ _ (by omega)
  refine ⟨(e g (Nat.le_refl _)).trans h.box, ?_, h.low, h.le, h.len, h.cpl, h.cpm⟩
  rcases h.row with h0 | ⟨b, off, rfl, h1⟩
  · exact Or.inl h0
  · refine Or.inr ⟨b, off, rfl, fun j hj => ?_⟩
    have h3 := h.low b off none rfl
    exact (World.cell?_of_block (a := ⟨b, off + j, none⟩) (e b (by omega))).trans (h1 j hj)
set_option maxHeartbeats 4000000 in
set_option maxRecDepth 100000 in
theorem dins_any {g : Nat} {a : Option Addr} {cap : Nat} {B : List UInt8} {W : World} {k : Nat} (h : Dm g a cap B W k 0 0) :
    Calls Try.prog 34 #[.pointer (some ⟨g, 0, none⟩)] W (Do (α := Ins) g a cap B (fun (i : Ins) v _ => v = .agg (insV i)) (fun v _ => ∃ i : Ins, v = .agg (insV i)) (insC.P B k) W) := by
  have hlen := h.len
  have hbm : B.length ≤ maxLen := by unfold maxLen; omega
  obtain ⟨res, hres⟩ : ∃ r, r = insC.P B k := ⟨_, rfl⟩
  rw [← hres]
  rw [insC_P] at hres
  have HLT := hid (show g < W.heap.size from lt_blk h.box)
  have HA0 := hid (belowA W (.cells #[.int .i64 0, .int .i64 0, .int .i64 0, .int .i64 0] 68))
  have HZ0 := hid (heap_alloc_new W (.cells #[.int .i64 0, .int .i64 0, .int .i64 0, .int .i64 0] 68))
  have HSZ := hid (show (W.alloc (.cells #[.int .i64 0, .int .i64 0, .int .i64 0, .int .i64 0] 68)).heap.size = W.heap.size + 1 from World.size_alloc _ _)
  have HA1 := hid (belowA (W.alloc (.cells #[.int .i64 0, .int .i64 0, .int .i64 0, .int .i64 0] 68)) (.cells #[.int .i64 0, .int .i64 0, .int .i64 0, .int .i64 0] 68))
  have HX1 := hid (heap_alloc_new (W.alloc (.cells #[.int .i64 0, .int .i64 0, .int .i64 0, .int .i64 0] 68)) (.cells #[.int .i64 0, .int .i64 0, .int .i64 0, .int .i64 0] 68))
  have HZ1 := hid ((HA1.out.block _ (lt_blk HZ0.out)).trans HZ0.out)
  have HB1 := hid (HA0.out.trans (HA1.out.mono HA0.out.size))
  have HR1 := hid (h.low' HB1.out)
  have HG1 := hid (Gb.of (g := g) HB1.out)
  clear h
  go_enter Try.func34, Try.ntmps34
  go_upto_region 2 with fail
  obtain ⟨xb, hxb⟩ : ∃ xb, xb = (W.alloc (.cells #[.int .i64 0, .int .i64 0, .int .i64 0, .int .i64 0] 68)).heap.size := ⟨_, rfl⟩
  rw [← hxb] at HX1
  (try rw [HSZ.out])
  have hxb2 : xb = W.heap.size + 1 := by rw [hxb]; exact HSZ.out
  obtain ⟨rb, hrb⟩ : ∃ rb, rb = W.heap.size := ⟨_, rfl⟩
  rw [← hrb] at HZ1 hxb2
  (try rw [← hxb])
  (try rw [← hrb])
  (try rw [← hxb2])
  generalize (W.alloc (.cells #[.int .i64 0, .int .i64 0, .int .i64 0, .int .i64 0] 68)).alloc (.cells #[.int .i64 0, .int .i64 0, .int .i64 0, .int .i64 0] 68) = V at *
  have K0 := hid (show g < rb from by have := HLT.out; omega)
  have K1 := hid (show W.heap.size ≤ rb from by omega)
  have K2 := hid (show rb ≠ xb from by omega)
  have K3 := hid (show g < xb from by have := HLT.out; omega)
  have K4 := hid (show W.heap.size ≤ xb from by omega)
  have K5 := hid (show xb ≠ g from by have := HLT.out; omega)
  have K6 := hid (show rb ≠ g from by have := HLT.out; omega)
  clear hxb hxb2 hrb HZ0 HSZ HA0 HA1 HB1 HLT
  have c0 : V.cell? ⟨g, 0, none⟩ = some (.slice a B.length cap) := cell_of_row _ _ 0 _ _ _ HR1.out.box
  have c1 : V.cell? ⟨g, 1, none⟩ = some (.int .i64 (k : Int)) := cell_of_row _ _ 1 _ _ _ HR1.out.box
  have c2 : V.cell? ⟨g, 2, none⟩ = some (.int .i64 0) := cell_of_row _ _ 2 _ _ _ HR1.out.box
  by_cases hkl : k < B.length
  · rw [if_pos hkl] at hres
    obtain ⟨c, hc⟩ : ∃ c, c = B.getD k 0 := ⟨_, rfl⟩
    rw [← hc] at hres
    obtain ⟨b, off, hae, hrow⟩ : ∃ b off, a = some ⟨b, off, none⟩ ∧ ∀ i, i < B.length → V.cell? ⟨b, off + i, none⟩ = some (.int .u8 (iv (B.getD i 0))) := by
      rcases HR1.out.row with h0 | ⟨b, off, e, h1⟩
      · omega
      · exact ⟨b, off, e, h1⟩
    subst hae
    have hby := hrow k hkl
    rw [← hc] at hby
    clear hrow hc
    obtain ⟨m, hm⟩ : ∃ m, m = c.toNat := ⟨_, rfl⟩
    have hm256 : m < 256 := by rw [hm]; exact c.toNat_lt
    rw [← hm] at hres
    have hiv : iv c = (m : Int) := by unfold iv; rw [hm]
    rw [hiv] at hby
    clear hm hiv
    have hw1 : IntKind.i64.wrap (m : Int) = (m : Int) := by rw [IntKind.wrap_i64]; omega
    have a1 : ¬ (B.length : Int) ≤ (k : Int) := by omega
    have a2 : (k : Int) < (B.length : Int) := by omega
    have a3 : (0 : Int) ≤ (k : Int) := by omega
    have HKL := hid hkl
    have HRES := hid hres
    clear hkl hres
    go_upto_region 4 with fail
    go_quiet (fail)
    have HD := hid (drew_below V nq)
    have HR2 := hid (HR1.out.low' HD.out)
    have HG2 := hid (HG1.out.trans (Gb.of HD.out))
    have HX2 := hid ((HD.out.block _ (lt_blk HX1.out)).trans HX1.out)
    have HZ2 := hid ((HD.out.block _ (lt_blk HZ1.out)).trans HZ1.out)
    have hby := (HD.out.cell (p := ⟨b, off + k, none⟩) (cell_lt hby)).trans hby
    have c0 := (HD.out.cell (p := ⟨g, 0, none⟩) (lt_blk HR1.out.box)).trans c0
    have c1 := (HD.out.cell (p := ⟨g, 1, none⟩) (lt_blk HR1.out.box)).trans c1
    generalize V.drewN nq = U at *
    clear c2 HR1 HG1 HX1 HZ1
    go_upto_region 7 with fail
    go_quiet (fail)
    have HD := hid (drew_below U nq)
    have HR3 := hid (HR2.out.low' HD.out)
    have HG3 := hid (HG2.out.trans (Gb.of HD.out))
    have HX3 := hid ((HD.out.block _ (lt_blk HX2.out)).trans HX2.out)
    have HZ3 := hid ((HD.out.block _ (lt_blk HZ2.out)).trans HZ2.out)
    generalize U.drewN nq = Y at *
    clear c0 c1 hby HR2 HG2 HX2 HZ2 HD
    have c1 : Y.cell? ⟨g, 1, none⟩ = some (.int .i64 (k : Int)) := cell_of_row _ _ 1 _ _ _ HR3.out.box
    have f1 : Y.frozen? ⟨g, 1, none⟩ = false := frz_row HR3.out.box 1
    by_cases hr1 : m < 1
    · have a4 : (m : Int) < 1 := by omega
      have HE3 := hid (show res = .error (203, k) from by rw [HRES.out, if_pos (Or.inl hr1)])
      have HFA := hid (dfail_any HR3.out 203 k)
      go_wp2_with fail
      refine HFA.out.mono ?_
      rintro e U ⟨rfl, h1, h2⟩
      have HC0 := hid (show (203 : Nat) ≠ 0 by decide)
      have HR4 := hid h1
      have HG4 := hid (HG3.out.trans h2)
      have HX4 := hid (h2.at HX3.out K5.out)
      have HZ4 := hid (h2.at HZ3.out K6.out)
      clear h1 h2 HFA
      have x0 : U.cell? ⟨xb, 0, none⟩ = some (.int .i64 0) := cell_of_row _ _ 0 _ _ _ HX4.out
      have x1 : U.cell? ⟨xb, 1, none⟩ = some (.int .i64 0) := cell_of_row _ _ 1 _ _ _ HX4.out
      have x2 : U.cell? ⟨xb, 2, none⟩ = some (.int .i64 0) := cell_of_row _ _ 2 _ _ _ HX4.out
      have x3 : U.cell? ⟨xb, 3, none⟩ = some (.int .i64 0) := cell_of_row _ _ 3 _ _ _ HX4.out
      have d0 : U.cell? ⟨rb, 0, none⟩ = some (.int .i64 0) := cell_of_row _ _ 0 _ _ _ HZ4.out
      have f0 : U.frozen? ⟨rb, 0, none⟩ = false := frz_row HZ4.out 0
      have d1 : U.cell? ⟨rb, 1, none⟩ = some (.int .i64 0) := cell_of_row _ _ 1 _ _ _ HZ4.out
      have f1 : U.frozen? ⟨rb, 1, none⟩ = false := frz_row HZ4.out 1
      have d2 : U.cell? ⟨rb, 2, none⟩ = some (.int .i64 0) := cell_of_row _ _ 2 _ _ _ HZ4.out
      have f2 : U.frozen? ⟨rb, 2, none⟩ = false := frz_row HZ4.out 2
      have d3 : U.cell? ⟨rb, 3, none⟩ = some (.int .i64 0) := cell_of_row _ _ 3 _ _ _ HZ4.out
      have f3 : U.frozen? ⟨rb, 3, none⟩ = false := frz_row HZ4.out 3
      go_wp2_with fail
      have S0 := HZ4
      have R0 := HR4
      have G0 := HG4
      have S1 := hid (show (U.setCell ⟨rb, 0, none⟩ (.int .i64 0)).heap[rb]? = some (.cells #[.int .i64 0, .int .i64 0, .int .i64 0, .int .i64 0] 68 (0, 0)) from by rw [setCell_eq_setRow _ _ _ _ _ _ _ S0.out, setRow_heap _ _ _ _ _ _ S0.out]; rfl)
      have R1 := hid (dm_new (j := 0) (v := .int .i64 0) R0.out S0.out K0.out)
      have G1 := hid (gb_new (j := 0) (v := .int .i64 0) G0.out S0.out K1.out)
      have S2 := hid (show ((U.setCell ⟨rb, 0, none⟩ (.int .i64 0)).setCell ⟨rb, 1, none⟩ (.int .i64 0)).heap[rb]? = some (.cells #[.int .i64 0, .int .i64 0, .int .i64 0, .int .i64 0] 68 (0, 0)) from by rw [setCell_eq_setRow _ _ _ _ _ _ _ S1.out, setRow_heap _ _ _ _ _ _ S1.out]; rfl)
      have R2 := hid (dm_new (j := 1) (v := .int .i64 0) R1.out S1.out K0.out)
      have G2 := hid (gb_new (j := 1) (v := .int .i64 0) G1.out S1.out K1.out)
      have S3 := hid (show (((U.setCell ⟨rb, 0, none⟩ (.int .i64 0)).setCell ⟨rb, 1, none⟩ (.int .i64 0)).setCell ⟨rb, 2, none⟩ (.int .i64 0)).heap[rb]? = some (.cells #[.int .i64 0, .int .i64 0, .int .i64 0, .int .i64 0] 68 (0, 0)) from by rw [setCell_eq_setRow _ _ _ _ _ _ _ S2.out, setRow_heap _ _ _ _ _ _ S2.out]; rfl)
      have R3 := hid (dm_new (j := 2) (v := .int .i64 0) R2.out S2.out K0.out)
      have G3 := hid (gb_new (j := 2) (v := .int .i64 0) G2.out S2.out K1.out)
      have S4 := hid (show ((((U.setCell ⟨rb, 0, none⟩ (.int .i64 0)).setCell ⟨rb, 1, none⟩ (.int .i64 0)).setCell ⟨rb, 2, none⟩ (.int .i64 0)).setCell ⟨rb, 3, none⟩ (.int .i64 0)).heap[rb]? = some (.cells #[.int .i64 0, .int .i64 0, .int .i64 0, .int .i64 0] 68 (0, 0)) from by rw [setCell_eq_setRow _ _ _ _ _ _ _ S3.out, setRow_heap _ _ _ _ _ _ S3.out]; rfl)
      have R4 := hid (dm_new (j := 3) (v := .int .i64 0) R3.out S3.out K0.out)
      have G4 := hid (gb_new (j := 3) (v := .int .i64 0) G3.out S3.out K1.out)
      generalize ((((U.setCell ⟨rb, 0, none⟩ (.int .i64 0)).setCell ⟨rb, 1, none⟩ (.int .i64 0)).setCell ⟨rb, 2, none⟩ (.int .i64 0)).setCell ⟨rb, 3, none⟩ (.int .i64 0)) = U2 at *
      refine ⟨rfl, .agg #[.int .i64 0, .int .i64 0, .int .i64 0, .int .i64 0], results_cell_row Try.results34 _ U2 rb 68 #[.int .i64 0, .int .i64 0, .int .i64 0, .int .i64 0] (0, 0) _ rfl S4.out Try.underlying68 rfl infoIn, ?_⟩
      rw [HE3.out]
      exact ⟨_, _, rfl, ⟨⟨0, 0, 0, 0⟩, rfl⟩, HC0.out, R4.out, G4.out⟩
    · have a4 : ¬ (m : Int) < 1 := by omega
      by_cases hr2 : 36 < m
      · have a5 : (36 : Int) < (m : Int) := by omega
        have HE3 := hid (show res = .error (203, k) from by rw [HRES.out, if_pos (Or.inr hr2)])
        have HFA := hid (dfail_any HR3.out 203 k)
        go_wp2_with fail
        refine HFA.out.mono ?_
        rintro e U ⟨rfl, h1, h2⟩
        have HC0 := hid (show (203 : Nat) ≠ 0 by decide)
        have HR4 := hid h1
        have HG4 := hid (HG3.out.trans h2)
        have HX4 := hid (h2.at HX3.out K5.out)
        have HZ4 := hid (h2.at HZ3.out K6.out)
        clear h1 h2 HFA
        have x0 : U.cell? ⟨xb, 0, none⟩ = some (.int .i64 0) := cell_of_row _ _ 0 _ _ _ HX4.out
        have x1 : U.cell? ⟨xb, 1, none⟩ = some (.int .i64 0) := cell_of_row _ _ 1 _ _ _ HX4.out
        have x2 : U.cell? ⟨xb, 2, none⟩ = some (.int .i64 0) := cell_of_row _ _ 2 _ _ _ HX4.out
        have x3 : U.cell? ⟨xb, 3, none⟩ = some (.int .i64 0) := cell_of_row _ _ 3 _ _ _ HX4.out
        have d0 : U.cell? ⟨rb, 0, none⟩ = some (.int .i64 0) := cell_of_row _ _ 0 _ _ _ HZ4.out
        have f0 : U.frozen? ⟨rb, 0, none⟩ = false := frz_row HZ4.out 0
        have d1 : U.cell? ⟨rb, 1, none⟩ = some (.int .i64 0) := cell_of_row _ _ 1 _ _ _ HZ4.out
        have f1 : U.frozen? ⟨rb, 1, none⟩ = false := frz_row HZ4.out 1
        have d2 : U.cell? ⟨rb, 2, none⟩ = some (.int .i64 0) := cell_of_row _ _ 2 _ _ _ HZ4.out
        have f2 : U.frozen? ⟨rb, 2, none⟩ = false := frz_row HZ4.out 2
        have d3 : U.cell? ⟨rb, 3, none⟩ = some (.int .i64 0) := cell_of_row _ _ 3 _ _ _ HZ4.out
        have f3 : U.frozen? ⟨rb, 3, none⟩ = false := frz_row HZ4.out 3
        go_wp2_with fail
        have S0 := HZ4
        have R0 := HR4
        have G0 := HG4
        have S1 := hid (show (U.setCell ⟨rb, 0, none⟩ (.int .i64 0)).heap[rb]? = some (.cells #[.int .i64 0, .int .i64 0, .int .i64 0, .int .i64 0] 68 (0, 0)) from by rw [setCell_eq_setRow _ _ _ _ _ _ _ S0.out, setRow_heap _ _ _ _ _ _ S0.out]; rfl)
        have R1 := hid (dm_new (j := 0) (v := .int .i64 0) R0.out S0.out K0.out)
        have G1 := hid (gb_new (j := 0) (v := .int .i64 0) G0.out S0.out K1.out)
        have S2 := hid (show ((U.setCell ⟨rb, 0, none⟩ (.int .i64 0)).setCell ⟨rb, 1, none⟩ (.int .i64 0)).heap[rb]? = some (.cells #[.int .i64 0, .int .i64 0, .int .i64 0, .int .i64 0] 68 (0, 0)) from by rw [setCell_eq_setRow _ _ _ _ _ _ _ S1.out, setRow_heap _ _ _ _ _ _ S1.out]; rfl)
        have R2 := hid (dm_new (j := 1) (v := .int .i64 0) R1.out S1.out K0.out)
        have G2 := hid (gb_new (j := 1) (v := .int .i64 0) G1.out S1.out K1.out)
        have S3 := hid (show (((U.setCell ⟨rb, 0, none⟩ (.int .i64 0)).setCell ⟨rb, 1, none⟩ (.int .i64 0)).setCell ⟨rb, 2, none⟩ (.int .i64 0)).heap[rb]? = some (.cells #[.int .i64 0, .int .i64 0, .int .i64 0, .int .i64 0] 68 (0, 0)) from by rw [setCell_eq_setRow _ _ _ _ _ _ _ S2.out, setRow_heap _ _ _ _ _ _ S2.out]; rfl)
        have R3 := hid (dm_new (j := 2) (v := .int .i64 0) R2.out S2.out K0.out)
        have G3 := hid (gb_new (j := 2) (v := .int .i64 0) G2.out S2.out K1.out)
        have S4 := hid (show ((((U.setCell ⟨rb, 0, none⟩ (.int .i64 0)).setCell ⟨rb, 1, none⟩ (.int .i64 0)).setCell ⟨rb, 2, none⟩ (.int .i64 0)).setCell ⟨rb, 3, none⟩ (.int .i64 0)).heap[rb]? = some (.cells #[.int .i64 0, .int .i64 0, .int .i64 0, .int .i64 0] 68 (0, 0)) from by rw [setCell_eq_setRow _ _ _ _ _ _ _ S3.out, setRow_heap _ _ _ _ _ _ S3.out]; rfl)
        have R4 := hid (dm_new (j := 3) (v := .int .i64 0) R3.out S3.out K0.out)
        have G4 := hid (gb_new (j := 3) (v := .int .i64 0) G3.out S3.out K1.out)
        generalize ((((U.setCell ⟨rb, 0, none⟩ (.int .i64 0)).setCell ⟨rb, 1, none⟩ (.int .i64 0)).setCell ⟨rb, 2, none⟩ (.int .i64 0)).setCell ⟨rb, 3, none⟩ (.int .i64 0)) = U2 at *
        refine ⟨rfl, .agg #[.int .i64 0, .int .i64 0, .int .i64 0, .int .i64 0], results_cell_row Try.results34 _ U2 rb 68 #[.int .i64 0, .int .i64 0, .int .i64 0, .int .i64 0] (0, 0) _ rfl S4.out Try.underlying68 rfl infoIn, ?_⟩
        rw [HE3.out]
        exact ⟨_, _, rfl, ⟨⟨0, 0, 0, 0⟩, rfl⟩, HC0.out, R4.out, G4.out⟩
      · have a5 : ¬ (36 : Int) < (m : Int) := by omega
        have hres := HRES.out
        rw [if_neg (show ¬ (m < 1 ∨ 36 < m) by omega)] at hres
        have HUS := hid (fun (Y : World) => duses_any (m : Int) Y)
        obtain ⟨q0, hq0⟩ : ∃ q, q = (us (m : Int)).1 := ⟨_, rfl⟩
        obtain ⟨q1, hq1⟩ : ∃ q, q = (us (m : Int)).2.1 := ⟨_, rfl⟩
        obtain ⟨q2, hq2⟩ : ∃ q, q = (us (m : Int)).2.2 := ⟨_, rfl⟩
        rw [← hq0, ← hq1, ← hq2] at HUS hres
        clear hq0 hq1 hq2
        have HE := hid hres.symm
        clear hres HRES
        have HG4 := hid (gb_set HR3.out.box 1 (.int .i64 ((k : Int) + 1)))
        have HB4 := hid (show (Y.setCell ⟨g, 1, none⟩ (.int .i64 ((k : Int) + 1))).heap[g]? = some (.cells #[.slice (some ⟨b, off, none⟩) B.length cap, .int .i64 ((k + 1 : Nat) : Int), .int .i64 ((0 : Nat) : Int), .int .i64 ((0 : Nat) : Int)] 73 (0, 0)) from by
          rw [setCell_eq_setRow _ _ _ _ _ _ _ HR3.out.box, setRow_heap _ _ _ _ _ _ HR3.out.box]; rfl)
        have HR4 := hid (HR3.out.go HG4.out HB4.out (by have := HKL.out; omega))
        have HX4 := hid (HG4.out.at HX3.out K5.out)
        have HZ4 := hid (HG4.out.at HZ3.out K6.out)
        have HG4 := hid (HG3.out.trans HG4.out)
        go_upto_region 12 with fail
        generalize Y.setCell ⟨g, 1, none⟩ (.int .i64 ((k : Int) + 1)) = Y4 at *
        clear c1 f1 HB4 HX3 HZ3 HR3 HG3 a1 a2 a3 a4 a5 hw1 hr1 hr2 hm256
        have f5 : Y4.frozen? ⟨xb, 0, none⟩ = false := frz_row HX4.out 0
        have c5 : Y4.cell? ⟨xb, 0, none⟩ = some (.int .i64 0) := cell_of_row _ _ 0 _ _ _ HX4.out
        go_upto_region 13 with fail
        have HX5 := hid (show (Y4.setCell ⟨xb, 0, none⟩ (.int .i64 (m : Int))).heap[xb]? = some (.cells #[.int .i64 (m : Int), .int .i64 0, .int .i64 0, .int .i64 0] 68 (0, 0)) from by rw [setCell_eq_setRow _ _ _ _ _ _ _ HX4.out, setRow_heap _ _ _ _ _ _ HX4.out]; rfl)
        have HZ5 := hid (show (Y4.setCell ⟨xb, 0, none⟩ (.int .i64 (m : Int))).heap[rb]? = some (.cells #[.int .i64 0, .int .i64 0, .int .i64 0, .int .i64 0] 68 (0, 0)) from by rw [setCell_eq_setRow _ _ _ _ _ _ _ HX4.out, setRow_other _ _ _ _ K2.out]; exact HZ4.out)
        have HR5 := hid (dm_new (j := 0) (v := .int .i64 (m : Int)) HR4.out HX4.out K3.out)
        have HG5 := hid (gb_new (j := 0) (v := .int .i64 (m : Int)) HG4.out HX4.out K4.out)
        generalize (Y4.setCell ⟨xb, 0, none⟩ (.int .i64 (m : Int))) = Y5 at *
        clear f5 c5
        go_wp2_with fail
        refine (HUS.out Y5).mono ?_
        rintro e Y6 ⟨rfl, hw⟩
        have hw2 := hw.symm
        subst hw2
        clear hw HUS
        go_upto_region 14 with fail
        cases q0 with
        | false =>
          have HE := hid (show insR B (m : Int) false q1 q2 1 0 0 0 (k + 1) = res from HE.out)
          go_upto_region 16 with fail
          cases q1 with
          | false =>
            have HE := hid (show insR B (m : Int) false false q2 2 0 0 0 (k + 1) = res from HE.out)
            go_upto_region 18 with fail
            cases q2 with
            | false =>
              have HE := hid (show insR B (m : Int) false false false 3 0 0 0 (k + 1) = res from HE.out)
              have HE3 := hid (show res = .ok (⟨(m : Int), 0, 0, 0⟩, (k + 1)) from HE.out.symm)
              have x0 : Y5.cell? ⟨xb, 0, none⟩ = some (.int .i64 (m : Int)) := cell_of_row _ _ 0 _ _ _ HX5.out
              have x1 : Y5.cell? ⟨xb, 1, none⟩ = some (.int .i64 0) := cell_of_row _ _ 1 _ _ _ HX5.out
              have x2 : Y5.cell? ⟨xb, 2, none⟩ = some (.int .i64 0) := cell_of_row _ _ 2 _ _ _ HX5.out
              have x3 : Y5.cell? ⟨xb, 3, none⟩ = some (.int .i64 0) := cell_of_row _ _ 3 _ _ _ HX5.out
              have d0 : Y5.cell? ⟨rb, 0, none⟩ = some (.int .i64 0) := cell_of_row _ _ 0 _ _ _ HZ5.out
              have f0 : Y5.frozen? ⟨rb, 0, none⟩ = false := frz_row HZ5.out 0
              have d1 : Y5.cell? ⟨rb, 1, none⟩ = some (.int .i64 0) := cell_of_row _ _ 1 _ _ _ HZ5.out
              have f1 : Y5.frozen? ⟨rb, 1, none⟩ = false := frz_row HZ5.out 1
              have d2 : Y5.cell? ⟨rb, 2, none⟩ = some (.int .i64 0) := cell_of_row _ _ 2 _ _ _ HZ5.out
              have f2 : Y5.frozen? ⟨rb, 2, none⟩ = false := frz_row HZ5.out 2
              have d3 : Y5.cell? ⟨rb, 3, none⟩ = some (.int .i64 0) := cell_of_row _ _ 3 _ _ _ HZ5.out
              have f3 : Y5.frozen? ⟨rb, 3, none⟩ = false := frz_row HZ5.out 3
              go_wp2_with fail
              have S0 := HZ5
              have R0 := HR5
              have G0 := HG5
              have S1 := hid (show (Y5.setCell ⟨rb, 0, none⟩ (.int .i64 (m : Int))).heap[rb]? = some (.cells #[.int .i64 (m : Int), .int .i64 0, .int .i64 0, .int .i64 0] 68 (0, 0)) from by rw [setCell_eq_setRow _ _ _ _ _ _ _ S0.out, setRow_heap _ _ _ _ _ _ S0.out]; rfl)
              have R1 := hid (dm_new (j := 0) (v := .int .i64 (m : Int)) R0.out S0.out K0.out)
              have G1 := hid (gb_new (j := 0) (v := .int .i64 (m : Int)) G0.out S0.out K1.out)
              have S2 := hid (show ((Y5.setCell ⟨rb, 0, none⟩ (.int .i64 (m : Int))).setCell ⟨rb, 1, none⟩ (.int .i64 0)).heap[rb]? = some (.cells #[.int .i64 (m : Int), .int .i64 0, .int .i64 0, .int .i64 0] 68 (0, 0)) from by rw [setCell_eq_setRow _ _ _ _ _ _ _ S1.out, setRow_heap _ _ _ _ _ _ S1.out]; rfl)
              have R2 := hid (dm_new (j := 1) (v := .int .i64 0) R1.out S1.out K0.out)
              have G2 := hid (gb_new (j := 1) (v := .int .i64 0) G1.out S1.out K1.out)
              have S3 := hid (show (((Y5.setCell ⟨rb, 0, none⟩ (.int .i64 (m : Int))).setCell ⟨rb, 1, none⟩ (.int .i64 0)).setCell ⟨rb, 2, none⟩ (.int .i64 0)).heap[rb]? = some (.cells #[.int .i64 (m : Int), .int .i64 0, .int .i64 0, .int .i64 0] 68 (0, 0)) from by rw [setCell_eq_setRow _ _ _ _ _ _ _ S2.out, setRow_heap _ _ _ _ _ _ S2.out]; rfl)
              have R3 := hid (dm_new (j := 2) (v := .int .i64 0) R2.out S2.out K0.out)
              have G3 := hid (gb_new (j := 2) (v := .int .i64 0) G2.out S2.out K1.out)
              have S4 := hid (show ((((Y5.setCell ⟨rb, 0, none⟩ (.int .i64 (m : Int))).setCell ⟨rb, 1, none⟩ (.int .i64 0)).setCell ⟨rb, 2, none⟩ (.int .i64 0)).setCell ⟨rb, 3, none⟩ (.int .i64 0)).heap[rb]? = some (.cells #[.int .i64 (m : Int), .int .i64 0, .int .i64 0, .int .i64 0] 68 (0, 0)) from by rw [setCell_eq_setRow _ _ _ _ _ _ _ S3.out, setRow_heap _ _ _ _ _ _ S3.out]; rfl)
              have R4 := hid (dm_new (j := 3) (v := .int .i64 0) R3.out S3.out K0.out)
              have G4 := hid (gb_new (j := 3) (v := .int .i64 0) G3.out S3.out K1.out)
              generalize ((((Y5.setCell ⟨rb, 0, none⟩ (.int .i64 (m : Int))).setCell ⟨rb, 1, none⟩ (.int .i64 0)).setCell ⟨rb, 2, none⟩ (.int .i64 0)).setCell ⟨rb, 3, none⟩ (.int .i64 0)) = U2 at *
              refine ⟨rfl, .agg #[.int .i64 (m : Int), .int .i64 0, .int .i64 0, .int .i64 0], results_cell_row Try.results34 _ U2 rb 68 #[.int .i64 (m : Int), .int .i64 0, .int .i64 0, .int .i64 0] (0, 0) _ rfl S4.out Try.underlying68 rfl infoIn, ?_⟩
              rw [HE3.out]
              exact ⟨_, rfl, rfl, R4.out, G4.out⟩
            | true =>
              have HC := hid (dcnt_any HR5.out 0 65535 (by decide) (by decide))
              obtain ⟨r0, hr0⟩ : ∃ r0, r0 = cntD B (k + 1) 0 65535 9 0 (k + 1) 0 := ⟨_, rfl⟩
              have hq : optP true B (k + 1) = dbnd r0 (fun n k1 => .ok ((n : Int), k1)) := by rw [hr0]; rfl
              rw [← hr0] at HC
              have he : dbnd (optP true B (k + 1)) (fun w k1 => insR B (m : Int) false false true 3 0 0 w k1) = res := HE.out
              rw [hq] at he
              clear hr0 hq
              cases r0 with
              | error e0 =>
                obtain ⟨c0, p0⟩ := e0
                have HE3 := hid (show res = .error (c0, p0) from he.symm)
                clear he
                go_wp2_with fail
                refine HC.out.mono ?_
                rintro e u11 ⟨vv, k5, rfl, rfl, h0, h3, h4⟩
                have HC0 := hid h0
                have HR11 := hid h3
                have HX11 := hid (h4.at HX5.out K5.out)
                have HZ11 := hid (h4.at HZ5.out K6.out)
                have HG11 := hid (HG5.out.trans h4)
                clear h0 h3 h4 HC
                have f5 : u11.frozen? ⟨xb, 3, none⟩ = false := frz_row HX11.out 3
                have c5 : u11.cell? ⟨xb, 3, none⟩ = some (.int .i64 0) := cell_of_row _ _ 3 _ _ _ HX11.out
                go_upto_region 20 with fail
                have HX12 := hid (show (u11.setCell ⟨xb, 3, none⟩ (.int .i64 0)).heap[xb]? = some (.cells #[.int .i64 (m : Int), .int .i64 0, .int .i64 0, .int .i64 0] 68 (0, 0)) from by rw [setCell_eq_setRow _ _ _ _ _ _ _ HX11.out, setRow_heap _ _ _ _ _ _ HX11.out]; rfl)
                have HZ12 := hid (show (u11.setCell ⟨xb, 3, none⟩ (.int .i64 0)).heap[rb]? = some (.cells #[.int .i64 0, .int .i64 0, .int .i64 0, .int .i64 0] 68 (0, 0)) from by rw [setCell_eq_setRow _ _ _ _ _ _ _ HX11.out, setRow_other _ _ _ _ K2.out]; exact HZ11.out)
                have HR12 := hid (dm_new (j := 3) (v := .int .i64 0) HR11.out HX11.out K3.out)
                have HG12 := hid (gb_new (j := 3) (v := .int .i64 0) HG11.out HX11.out K4.out)
                generalize (u11.setCell ⟨xb, 3, none⟩ (.int .i64 0)) = v12 at *
                clear f5 c5
                have x0 : v12.cell? ⟨xb, 0, none⟩ = some (.int .i64 (m : Int)) := cell_of_row _ _ 0 _ _ _ HX12.out
                have x1 : v12.cell? ⟨xb, 1, none⟩ = some (.int .i64 0) := cell_of_row _ _ 1 _ _ _ HX12.out
                have x2 : v12.cell? ⟨xb, 2, none⟩ = some (.int .i64 0) := cell_of_row _ _ 2 _ _ _ HX12.out
                have x3 : v12.cell? ⟨xb, 3, none⟩ = some (.int .i64 0) := cell_of_row _ _ 3 _ _ _ HX12.out
                have d0 : v12.cell? ⟨rb, 0, none⟩ = some (.int .i64 0) := cell_of_row _ _ 0 _ _ _ HZ12.out
                have f0 : v12.frozen? ⟨rb, 0, none⟩ = false := frz_row HZ12.out 0
                have d1 : v12.cell? ⟨rb, 1, none⟩ = some (.int .i64 0) := cell_of_row _ _ 1 _ _ _ HZ12.out
                have f1 : v12.frozen? ⟨rb, 1, none⟩ = false := frz_row HZ12.out 1
                have d2 : v12.cell? ⟨rb, 2, none⟩ = some (.int .i64 0) := cell_of_row _ _ 2 _ _ _ HZ12.out
                have f2 : v12.frozen? ⟨rb, 2, none⟩ = false := frz_row HZ12.out 2
                have d3 : v12.cell? ⟨rb, 3, none⟩ = some (.int .i64 0) := cell_of_row _ _ 3 _ _ _ HZ12.out
                have f3 : v12.frozen? ⟨rb, 3, none⟩ = false := frz_row HZ12.out 3
                go_wp2_with fail
                have S0 := HZ12
                have R0 := HR12
                have G0 := HG12
                have S1 := hid (show (v12.setCell ⟨rb, 0, none⟩ (.int .i64 (m : Int))).heap[rb]? = some (.cells #[.int .i64 (m : Int), .int .i64 0, .int .i64 0, .int .i64 0] 68 (0, 0)) from by rw [setCell_eq_setRow _ _ _ _ _ _ _ S0.out, setRow_heap _ _ _ _ _ _ S0.out]; rfl)
                have R1 := hid (dm_new (j := 0) (v := .int .i64 (m : Int)) R0.out S0.out K0.out)
                have G1 := hid (gb_new (j := 0) (v := .int .i64 (m : Int)) G0.out S0.out K1.out)
                have S2 := hid (show ((v12.setCell ⟨rb, 0, none⟩ (.int .i64 (m : Int))).setCell ⟨rb, 1, none⟩ (.int .i64 0)).heap[rb]? = some (.cells #[.int .i64 (m : Int), .int .i64 0, .int .i64 0, .int .i64 0] 68 (0, 0)) from by rw [setCell_eq_setRow _ _ _ _ _ _ _ S1.out, setRow_heap _ _ _ _ _ _ S1.out]; rfl)
                have R2 := hid (dm_new (j := 1) (v := .int .i64 0) R1.out S1.out K0.out)
                have G2 := hid (gb_new (j := 1) (v := .int .i64 0) G1.out S1.out K1.out)
                have S3 := hid (show (((v12.setCell ⟨rb, 0, none⟩ (.int .i64 (m : Int))).setCell ⟨rb, 1, none⟩ (.int .i64 0)).setCell ⟨rb, 2, none⟩ (.int .i64 0)).heap[rb]? = some (.cells #[.int .i64 (m : Int), .int .i64 0, .int .i64 0, .int .i64 0] 68 (0, 0)) from by rw [setCell_eq_setRow _ _ _ _ _ _ _ S2.out, setRow_heap _ _ _ _ _ _ S2.out]; rfl)
                have R3 := hid (dm_new (j := 2) (v := .int .i64 0) R2.out S2.out K0.out)
                have G3 := hid (gb_new (j := 2) (v := .int .i64 0) G2.out S2.out K1.out)
                have S4 := hid (show ((((v12.setCell ⟨rb, 0, none⟩ (.int .i64 (m : Int))).setCell ⟨rb, 1, none⟩ (.int .i64 0)).setCell ⟨rb, 2, none⟩ (.int .i64 0)).setCell ⟨rb, 3, none⟩ (.int .i64 0)).heap[rb]? = some (.cells #[.int .i64 (m : Int), .int .i64 0, .int .i64 0, .int .i64 0] 68 (0, 0)) from by rw [setCell_eq_setRow _ _ _ _ _ _ _ S3.out, setRow_heap _ _ _ _ _ _ S3.out]; rfl)
                have R4 := hid (dm_new (j := 3) (v := .int .i64 0) R3.out S3.out K0.out)
                have G4 := hid (gb_new (j := 3) (v := .int .i64 0) G3.out S3.out K1.out)
                generalize ((((v12.setCell ⟨rb, 0, none⟩ (.int .i64 (m : Int))).setCell ⟨rb, 1, none⟩ (.int .i64 0)).setCell ⟨rb, 2, none⟩ (.int .i64 0)).setCell ⟨rb, 3, none⟩ (.int .i64 0)) = U2 at *
                refine ⟨rfl, .agg #[.int .i64 (m : Int), .int .i64 0, .int .i64 0, .int .i64 0], results_cell_row Try.results34 _ U2 rb 68 #[.int .i64 (m : Int), .int .i64 0, .int .i64 0, .int .i64 0] (0, 0) _ rfl S4.out Try.underlying68 rfl infoIn, ?_⟩
                rw [HE3.out]
                exact ⟨_, _, rfl, ⟨⟨(m : Int), 0, 0, 0⟩, rfl⟩, HC0.out, R4.out, G4.out⟩
              | ok y0 =>
                obtain ⟨n13, k13⟩ := y0
                have HE := hid (show insR B (m : Int) false false true 3 0 0 (n13 : Int) k13 = res from he)
                clear he
                go_wp2_with fail
                refine HC.out.mono ?_
                rintro e u13 ⟨vv, rfl, rfl, h3, h4⟩
                have HR13 := hid h3
                have HX13 := hid (h4.at HX5.out K5.out)
                have HZ13 := hid (h4.at HZ5.out K6.out)
                have HG13 := hid (HG5.out.trans h4)
                clear h3 h4 HC
                have f5 : u13.frozen? ⟨xb, 3, none⟩ = false := frz_row HX13.out 3
                have c5 : u13.cell? ⟨xb, 3, none⟩ = some (.int .i64 0) := cell_of_row _ _ 3 _ _ _ HX13.out
                go_upto_region 20 with fail
                have HX14 := hid (show (u13.setCell ⟨xb, 3, none⟩ (.int .i64 (n13 : Int))).heap[xb]? = some (.cells #[.int .i64 (m : Int), .int .i64 0, .int .i64 0, .int .i64 (n13 : Int)] 68 (0, 0)) from by rw [setCell_eq_setRow _ _ _ _ _ _ _ HX13.out, setRow_heap _ _ _ _ _ _ HX13.out]; rfl)
                have HZ14 := hid (show (u13.setCell ⟨xb, 3, none⟩ (.int .i64 (n13 : Int))).heap[rb]? = some (.cells #[.int .i64 0, .int .i64 0, .int .i64 0, .int .i64 0] 68 (0, 0)) from by rw [setCell_eq_setRow _ _ _ _ _ _ _ HX13.out, setRow_other _ _ _ _ K2.out]; exact HZ13.out)
                have HR14 := hid (dm_new (j := 3) (v := .int .i64 (n13 : Int)) HR13.out HX13.out K3.out)
                have HG14 := hid (gb_new (j := 3) (v := .int .i64 (n13 : Int)) HG13.out HX13.out K4.out)
                generalize (u13.setCell ⟨xb, 3, none⟩ (.int .i64 (n13 : Int))) = v14 at *
                clear f5 c5
                have HE3 := hid (show res = .ok (⟨(m : Int), 0, 0, (n13 : Int)⟩, k13) from HE.out.symm)
                have x0 : v14.cell? ⟨xb, 0, none⟩ = some (.int .i64 (m : Int)) := cell_of_row _ _ 0 _ _ _ HX14.out
                have x1 : v14.cell? ⟨xb, 1, none⟩ = some (.int .i64 0) := cell_of_row _ _ 1 _ _ _ HX14.out
                have x2 : v14.cell? ⟨xb, 2, none⟩ = some (.int .i64 0) := cell_of_row _ _ 2 _ _ _ HX14.out
                have x3 : v14.cell? ⟨xb, 3, none⟩ = some (.int .i64 (n13 : Int)) := cell_of_row _ _ 3 _ _ _ HX14.out
                have d0 : v14.cell? ⟨rb, 0, none⟩ = some (.int .i64 0) := cell_of_row _ _ 0 _ _ _ HZ14.out
                have f0 : v14.frozen? ⟨rb, 0, none⟩ = false := frz_row HZ14.out 0
                have d1 : v14.cell? ⟨rb, 1, none⟩ = some (.int .i64 0) := cell_of_row _ _ 1 _ _ _ HZ14.out
                have f1 : v14.frozen? ⟨rb, 1, none⟩ = false := frz_row HZ14.out 1
                have d2 : v14.cell? ⟨rb, 2, none⟩ = some (.int .i64 0) := cell_of_row _ _ 2 _ _ _ HZ14.out
                have f2 : v14.frozen? ⟨rb, 2, none⟩ = false := frz_row HZ14.out 2
                have d3 : v14.cell? ⟨rb, 3, none⟩ = some (.int .i64 0) := cell_of_row _ _ 3 _ _ _ HZ14.out
                have f3 : v14.frozen? ⟨rb, 3, none⟩ = false := frz_row HZ14.out 3
                go_wp2_with fail
                have S0 := HZ14
                have R0 := HR14
                have G0 := HG14
                have S1 := hid (show (v14.setCell ⟨rb, 0, none⟩ (.int .i64 (m : Int))).heap[rb]? = some (.cells #[.int .i64 (m : Int), .int .i64 0, .int .i64 0, .int .i64 0] 68 (0, 0)) from by rw [setCell_eq_setRow _ _ _ _ _ _ _ S0.out, setRow_heap _ _ _ _ _ _ S0.out]; rfl)
                have R1 := hid (dm_new (j := 0) (v := .int .i64 (m : Int)) R0.out S0.out K0.out)
                have G1 := hid (gb_new (j := 0) (v := .int .i64 (m : Int)) G0.out S0.out K1.out)
                have S2 := hid (show ((v14.setCell ⟨rb, 0, none⟩ (.int .i64 (m : Int))).setCell ⟨rb, 1, none⟩ (.int .i64 0)).heap[rb]? = some (.cells #[.int .i64 (m : Int), .int .i64 0, .int .i64 0, .int .i64 0] 68 (0, 0)) from by rw [setCell_eq_setRow _ _ _ _ _ _ _ S1.out, setRow_heap _ _ _ _ _ _ S1.out]; rfl)
                have R2 := hid (dm_new (j := 1) (v := .int .i64 0) R1.out S1.out K0.out)
                have G2 := hid (gb_new (j := 1) (v := .int .i64 0) G1.out S1.out K1.out)
                have S3 := hid (show (((v14.setCell ⟨rb, 0, none⟩ (.int .i64 (m : Int))).setCell ⟨rb, 1, none⟩ (.int .i64 0)).setCell ⟨rb, 2, none⟩ (.int .i64 0)).heap[rb]? = some (.cells #[.int .i64 (m : Int), .int .i64 0, .int .i64 0, .int .i64 0] 68 (0, 0)) from by rw [setCell_eq_setRow _ _ _ _ _ _ _ S2.out, setRow_heap _ _ _ _ _ _ S2.out]; rfl)
                have R3 := hid (dm_new (j := 2) (v := .int .i64 0) R2.out S2.out K0.out)
                have G3 := hid (gb_new (j := 2) (v := .int .i64 0) G2.out S2.out K1.out)
                have S4 := hid (show ((((v14.setCell ⟨rb, 0, none⟩ (.int .i64 (m : Int))).setCell ⟨rb, 1, none⟩ (.int .i64 0)).setCell ⟨rb, 2, none⟩ (.int .i64 0)).setCell ⟨rb, 3, none⟩ (.int .i64 (n13 : Int))).heap[rb]? = some (.cells #[.int .i64 (m : Int), .int .i64 0, .int .i64 0, .int .i64 (n13 : Int)] 68 (0, 0)) from by rw [setCell_eq_setRow _ _ _ _ _ _ _ S3.out, setRow_heap _ _ _ _ _ _ S3.out]; rfl)
                have R4 := hid (dm_new (j := 3) (v := .int .i64 (n13 : Int)) R3.out S3.out K0.out)
                have G4 := hid (gb_new (j := 3) (v := .int .i64 (n13 : Int)) G3.out S3.out K1.out)
                generalize ((((v14.setCell ⟨rb, 0, none⟩ (.int .i64 (m : Int))).setCell ⟨rb, 1, none⟩ (.int .i64 0)).setCell ⟨rb, 2, none⟩ (.int .i64 0)).setCell ⟨rb, 3, none⟩ (.int .i64 (n13 : Int))) = U2 at *
                refine ⟨rfl, .agg #[.int .i64 (m : Int), .int .i64 0, .int .i64 0, .int .i64 (n13 : Int)], results_cell_row Try.results34 _ U2 rb 68 #[.int .i64 (m : Int), .int .i64 0, .int .i64 0, .int .i64 (n13 : Int)] (0, 0) _ rfl S4.out Try.underlying68 rfl infoIn, ?_⟩
                rw [HE3.out]
                exact ⟨_, rfl, rfl, R4.out, G4.out⟩
          | true =>
            have HC := hid (dcnt_any HR5.out 0 65535 (by decide) (by decide))
            obtain ⟨r0, hr0⟩ : ∃ r0, r0 = cntD B (k + 1) 0 65535 9 0 (k + 1) 0 := ⟨_, rfl⟩
            have hq : optP true B (k + 1) = dbnd r0 (fun n k1 => .ok ((n : Int), k1)) := by rw [hr0]; rfl
            rw [← hr0] at HC
            have he : dbnd (optP true B (k + 1)) (fun w k1 => insR B (m : Int) false true q2 2 0 w 0 k1) = res := HE.out
            rw [hq] at he
            clear hr0 hq
            cases r0 with
            | error e0 =>
              obtain ⟨c0, p0⟩ := e0
              have HE3 := hid (show res = .error (c0, p0) from he.symm)
              clear he
              go_wp2_with fail
              refine HC.out.mono ?_
              rintro e u15 ⟨vv, k5, rfl, rfl, h0, h3, h4⟩
              have HC0 := hid h0
              have HR15 := hid h3
              have HX15 := hid (h4.at HX5.out K5.out)
              have HZ15 := hid (h4.at HZ5.out K6.out)
              have HG15 := hid (HG5.out.trans h4)
              clear h0 h3 h4 HC
              have f5 : u15.frozen? ⟨xb, 2, none⟩ = false := frz_row HX15.out 2
              have c5 : u15.cell? ⟨xb, 2, none⟩ = some (.int .i64 0) := cell_of_row _ _ 2 _ _ _ HX15.out
              go_upto_region 18 with fail
              have HX16 := hid (show (u15.setCell ⟨xb, 2, none⟩ (.int .i64 0)).heap[xb]? = some (.cells #[.int .i64 (m : Int), .int .i64 0, .int .i64 0, .int .i64 0] 68 (0, 0)) from by rw [setCell_eq_setRow _ _ _ _ _ _ _ HX15.out, setRow_heap _ _ _ _ _ _ HX15.out]; rfl)
              have HZ16 := hid (show (u15.setCell ⟨xb, 2, none⟩ (.int .i64 0)).heap[rb]? = some (.cells #[.int .i64 0, .int .i64 0, .int .i64 0, .int .i64 0] 68 (0, 0)) from by rw [setCell_eq_setRow _ _ _ _ _ _ _ HX15.out, setRow_other _ _ _ _ K2.out]; exact HZ15.out)
              have HR16 := hid (dm_new (j := 2) (v := .int .i64 0) HR15.out HX15.out K3.out)
              have HG16 := hid (gb_new (j := 2) (v := .int .i64 0) HG15.out HX15.out K4.out)
              generalize (u15.setCell ⟨xb, 2, none⟩ (.int .i64 0)) = v16 at *
              clear f5 c5
              go_upto_region 18 with fail
              cases q2 with
              | false =>
                have x0 : v16.cell? ⟨xb, 0, none⟩ = some (.int .i64 (m : Int)) := cell_of_row _ _ 0 _ _ _ HX16.out
                have x1 : v16.cell? ⟨xb, 1, none⟩ = some (.int .i64 0) := cell_of_row _ _ 1 _ _ _ HX16.out
                have x2 : v16.cell? ⟨xb, 2, none⟩ = some (.int .i64 0) := cell_of_row _ _ 2 _ _ _ HX16.out
                have x3 : v16.cell? ⟨xb, 3, none⟩ = some (.int .i64 0) := cell_of_row _ _ 3 _ _ _ HX16.out
                have d0 : v16.cell? ⟨rb, 0, none⟩ = some (.int .i64 0) := cell_of_row _ _ 0 _ _ _ HZ16.out
                have f0 : v16.frozen? ⟨rb, 0, none⟩ = false := frz_row HZ16.out 0
                have d1 : v16.cell? ⟨rb, 1, none⟩ = some (.int .i64 0) := cell_of_row _ _ 1 _ _ _ HZ16.out
                have f1 : v16.frozen? ⟨rb, 1, none⟩ = false := frz_row HZ16.out 1
                have d2 : v16.cell? ⟨rb, 2, none⟩ = some (.int .i64 0) := cell_of_row _ _ 2 _ _ _ HZ16.out
                have f2 : v16.frozen? ⟨rb, 2, none⟩ = false := frz_row HZ16.out 2
                have d3 : v16.cell? ⟨rb, 3, none⟩ = some (.int .i64 0) := cell_of_row _ _ 3 _ _ _ HZ16.out
                have f3 : v16.frozen? ⟨rb, 3, none⟩ = false := frz_row HZ16.out 3
                go_wp2_with fail
                have S0 := HZ16
                have R0 := HR16
                have G0 := HG16
                have S1 := hid (show (v16.setCell ⟨rb, 0, none⟩ (.int .i64 (m : Int))).heap[rb]? = some (.cells #[.int .i64 (m : Int), .int .i64 0, .int .i64 0, .int .i64 0] 68 (0, 0)) from by rw [setCell_eq_setRow _ _ _ _ _ _ _ S0.out, setRow_heap _ _ _ _ _ _ S0.out]; rfl)
                have R1 := hid (dm_new (j := 0) (v := .int .i64 (m : Int)) R0.out S0.out K0.out)
                have G1 := hid (gb_new (j := 0) (v := .int .i64 (m : Int)) G0.out S0.out K1.out)
                have S2 := hid (show ((v16.setCell ⟨rb, 0, none⟩ (.int .i64 (m : Int))).setCell ⟨rb, 1, none⟩ (.int .i64 0)).heap[rb]? = some (.cells #[.int .i64 (m : Int), .int .i64 0, .int .i64 0, .int .i64 0] 68 (0, 0)) from by rw [setCell_eq_setRow _ _ _ _ _ _ _ S1.out, setRow_heap _ _ _ _ _ _ S1.out]; rfl)
                have R2 := hid (dm_new (j := 1) (v := .int .i64 0) R1.out S1.out K0.out)
                have G2 := hid (gb_new (j := 1) (v := .int .i64 0) G1.out S1.out K1.out)
                have S3 := hid (show (((v16.setCell ⟨rb, 0, none⟩ (.int .i64 (m : Int))).setCell ⟨rb, 1, none⟩ (.int .i64 0)).setCell ⟨rb, 2, none⟩ (.int .i64 0)).heap[rb]? = some (.cells #[.int .i64 (m : Int), .int .i64 0, .int .i64 0, .int .i64 0] 68 (0, 0)) from by rw [setCell_eq_setRow _ _ _ _ _ _ _ S2.out, setRow_heap _ _ _ _ _ _ S2.out]; rfl)
                have R3 := hid (dm_new (j := 2) (v := .int .i64 0) R2.out S2.out K0.out)
                have G3 := hid (gb_new (j := 2) (v := .int .i64 0) G2.out S2.out K1.out)
                have S4 := hid (show ((((v16.setCell ⟨rb, 0, none⟩ (.int .i64 (m : Int))).setCell ⟨rb, 1, none⟩ (.int .i64 0)).setCell ⟨rb, 2, none⟩ (.int .i64 0)).setCell ⟨rb, 3, none⟩ (.int .i64 0)).heap[rb]? = some (.cells #[.int .i64 (m : Int), .int .i64 0, .int .i64 0, .int .i64 0] 68 (0, 0)) from by rw [setCell_eq_setRow _ _ _ _ _ _ _ S3.out, setRow_heap _ _ _ _ _ _ S3.out]; rfl)
                have R4 := hid (dm_new (j := 3) (v := .int .i64 0) R3.out S3.out K0.out)
                have G4 := hid (gb_new (j := 3) (v := .int .i64 0) G3.out S3.out K1.out)
                generalize ((((v16.setCell ⟨rb, 0, none⟩ (.int .i64 (m : Int))).setCell ⟨rb, 1, none⟩ (.int .i64 0)).setCell ⟨rb, 2, none⟩ (.int .i64 0)).setCell ⟨rb, 3, none⟩ (.int .i64 0)) = U2 at *
                refine ⟨rfl, .agg #[.int .i64 (m : Int), .int .i64 0, .int .i64 0, .int .i64 0], results_cell_row Try.results34 _ U2 rb 68 #[.int .i64 (m : Int), .int .i64 0, .int .i64 0, .int .i64 0] (0, 0) _ rfl S4.out Try.underlying68 rfl infoIn, ?_⟩
                rw [HE3.out]
                exact ⟨_, _, rfl, ⟨⟨(m : Int), 0, 0, 0⟩, rfl⟩, HC0.out, R4.out, G4.out⟩
              | true =>
                have HC := hid (dcnt_bad HR16.out HC0.out 0 65535)
                go_wp2_with fail
                refine HC.out.mono ?_
                rintro e u17 ⟨rfl, hw⟩
                have hw2 := hw.symm
                subst hw2
                clear hw HC
                have f5 : v16.frozen? ⟨xb, 3, none⟩ = false := frz_row HX16.out 3
                have c5 : v16.cell? ⟨xb, 3, none⟩ = some (.int .i64 0) := cell_of_row _ _ 3 _ _ _ HX16.out
                go_upto_region 20 with fail
                have HX17 := hid (show (v16.setCell ⟨xb, 3, none⟩ (.int .i64 0)).heap[xb]? = some (.cells #[.int .i64 (m : Int), .int .i64 0, .int .i64 0, .int .i64 0] 68 (0, 0)) from by rw [setCell_eq_setRow _ _ _ _ _ _ _ HX16.out, setRow_heap _ _ _ _ _ _ HX16.out]; rfl)
                have HZ17 := hid (show (v16.setCell ⟨xb, 3, none⟩ (.int .i64 0)).heap[rb]? = some (.cells #[.int .i64 0, .int .i64 0, .int .i64 0, .int .i64 0] 68 (0, 0)) from by rw [setCell_eq_setRow _ _ _ _ _ _ _ HX16.out, setRow_other _ _ _ _ K2.out]; exact HZ16.out)
                have HR17 := hid (dm_new (j := 3) (v := .int .i64 0) HR16.out HX16.out K3.out)
                have HG17 := hid (gb_new (j := 3) (v := .int .i64 0) HG16.out HX16.out K4.out)
                generalize (v16.setCell ⟨xb, 3, none⟩ (.int .i64 0)) = v17 at *
                clear f5 c5
                have x0 : v17.cell? ⟨xb, 0, none⟩ = some (.int .i64 (m : Int)) := cell_of_row _ _ 0 _ _ _ HX17.out
                have x1 : v17.cell? ⟨xb, 1, none⟩ = some (.int .i64 0) := cell_of_row _ _ 1 _ _ _ HX17.out
                have x2 : v17.cell? ⟨xb, 2, none⟩ = some (.int .i64 0) := cell_of_row _ _ 2 _ _ _ HX17.out
                have x3 : v17.cell? ⟨xb, 3, none⟩ = some (.int .i64 0) := cell_of_row _ _ 3 _ _ _ HX17.out
                have d0 : v17.cell? ⟨rb, 0, none⟩ = some (.int .i64 0) := cell_of_row _ _ 0 _ _ _ HZ17.out
                have f0 : v17.frozen? ⟨rb, 0, none⟩ = false := frz_row HZ17.out 0
                have d1 : v17.cell? ⟨rb, 1, none⟩ = some (.int .i64 0) := cell_of_row _ _ 1 _ _ _ HZ17.out
                have f1 : v17.frozen? ⟨rb, 1, none⟩ = false := frz_row HZ17.out 1
                have d2 : v17.cell? ⟨rb, 2, none⟩ = some (.int .i64 0) := cell_of_row _ _ 2 _ _ _ HZ17.out
                have f2 : v17.frozen? ⟨rb, 2, none⟩ = false := frz_row HZ17.out 2
                have d3 : v17.cell? ⟨rb, 3, none⟩ = some (.int .i64 0) := cell_of_row _ _ 3 _ _ _ HZ17.out
                have f3 : v17.frozen? ⟨rb, 3, none⟩ = false := frz_row HZ17.out 3
                go_wp2_with fail
                have S0 := HZ17
                have R0 := HR17
                have G0 := HG17
                have S1 := hid (show (v17.setCell ⟨rb, 0, none⟩ (.int .i64 (m : Int))).heap[rb]? = some (.cells #[.int .i64 (m : Int), .int .i64 0, .int .i64 0, .int .i64 0] 68 (0, 0)) from by rw [setCell_eq_setRow _ _ _ _ _ _ _ S0.out, setRow_heap _ _ _ _ _ _ S0.out]; rfl)
                have R1 := hid (dm_new (j := 0) (v := .int .i64 (m : Int)) R0.out S0.out K0.out)
                have G1 := hid (gb_new (j := 0) (v := .int .i64 (m : Int)) G0.out S0.out K1.out)
                have S2 := hid (show ((v17.setCell ⟨rb, 0, none⟩ (.int .i64 (m : Int))).setCell ⟨rb, 1, none⟩ (.int .i64 0)).heap[rb]? = some (.cells #[.int .i64 (m : Int), .int .i64 0, .int .i64 0, .int .i64 0] 68 (0, 0)) from by rw [setCell_eq_setRow _ _ _ _ _ _ _ S1.out, setRow_heap _ _ _ _ _ _ S1.out]; rfl)
                have R2 := hid (dm_new (j := 1) (v := .int .i64 0) R1.out S1.out K0.out)
                have G2 := hid (gb_new (j := 1) (v := .int .i64 0) G1.out S1.out K1.out)
                have S3 := hid (show (((v17.setCell ⟨rb, 0, none⟩ (.int .i64 (m : Int))).setCell ⟨rb, 1, none⟩ (.int .i64 0)).setCell ⟨rb, 2, none⟩ (.int .i64 0)).heap[rb]? = some (.cells #[.int .i64 (m : Int), .int .i64 0, .int .i64 0, .int .i64 0] 68 (0, 0)) from by rw [setCell_eq_setRow _ _ _ _ _ _ _ S2.out, setRow_heap _ _ _ _ _ _ S2.out]; rfl)
                have R3 := hid (dm_new (j := 2) (v := .int .i64 0) R2.out S2.out K0.out)
                have G3 := hid (gb_new (j := 2) (v := .int .i64 0) G2.out S2.out K1.out)
                have S4 := hid (show ((((v17.setCell ⟨rb, 0, none⟩ (.int .i64 (m : Int))).setCell ⟨rb, 1, none⟩ (.int .i64 0)).setCell ⟨rb, 2, none⟩ (.int .i64 0)).setCell ⟨rb, 3, none⟩ (.int .i64 0)).heap[rb]? = some (.cells #[.int .i64 (m : Int), .int .i64 0, .int .i64 0, .int .i64 0] 68 (0, 0)) from by rw [setCell_eq_setRow _ _ _ _ _ _ _ S3.out, setRow_heap _ _ _ _ _ _ S3.out]; rfl)
                have R4 := hid (dm_new (j := 3) (v := .int .i64 0) R3.out S3.out K0.out)
                have G4 := hid (gb_new (j := 3) (v := .int .i64 0) G3.out S3.out K1.out)
                generalize ((((v17.setCell ⟨rb, 0, none⟩ (.int .i64 (m : Int))).setCell ⟨rb, 1, none⟩ (.int .i64 0)).setCell ⟨rb, 2, none⟩ (.int .i64 0)).setCell ⟨rb, 3, none⟩ (.int .i64 0)) = U2 at *
                refine ⟨rfl, .agg #[.int .i64 (m : Int), .int .i64 0, .int .i64 0, .int .i64 0], results_cell_row Try.results34 _ U2 rb 68 #[.int .i64 (m : Int), .int .i64 0, .int .i64 0, .int .i64 0] (0, 0) _ rfl S4.out Try.underlying68 rfl infoIn, ?_⟩
                rw [HE3.out]
                exact ⟨_, _, rfl, ⟨⟨(m : Int), 0, 0, 0⟩, rfl⟩, HC0.out, R4.out, G4.out⟩
            | ok y0 =>
              obtain ⟨n18, k18⟩ := y0
              have HE := hid (show insR B (m : Int) false true q2 2 0 (n18 : Int) 0 k18 = res from he)
              clear he
              go_wp2_with fail
              refine HC.out.mono ?_
              rintro e u18 ⟨vv, rfl, rfl, h3, h4⟩
              have HR18 := hid h3
              have HX18 := hid (h4.at HX5.out K5.out)
              have HZ18 := hid (h4.at HZ5.out K6.out)
              have HG18 := hid (HG5.out.trans h4)
              clear h3 h4 HC
              have f5 : u18.frozen? ⟨xb, 2, none⟩ = false := frz_row HX18.out 2
              have c5 : u18.cell? ⟨xb, 2, none⟩ = some (.int .i64 0) := cell_of_row _ _ 2 _ _ _ HX18.out
              go_upto_region 18 with fail
              have HX19 := hid (show (u18.setCell ⟨xb, 2, none⟩ (.int .i64 (n18 : Int))).heap[xb]? = some (.cells #[.int .i64 (m : Int), .int .i64 0, .int .i64 (n18 : Int), .int .i64 0] 68 (0, 0)) from by rw [setCell_eq_setRow _ _ _ _ _ _ _ HX18.out, setRow_heap _ _ _ _ _ _ HX18.out]; rfl)
              have HZ19 := hid (show (u18.setCell ⟨xb, 2, none⟩ (.int .i64 (n18 : Int))).heap[rb]? = some (.cells #[.int .i64 0, .int .i64 0, .int .i64 0, .int .i64 0] 68 (0, 0)) from by rw [setCell_eq_setRow _ _ _ _ _ _ _ HX18.out, setRow_other _ _ _ _ K2.out]; exact HZ18.out)
              have HR19 := hid (dm_new (j := 2) (v := .int .i64 (n18 : Int)) HR18.out HX18.out K3.out)
              have HG19 := hid (gb_new (j := 2) (v := .int .i64 (n18 : Int)) HG18.out HX18.out K4.out)
              generalize (u18.setCell ⟨xb, 2, none⟩ (.int .i64 (n18 : Int))) = v19 at *
              clear f5 c5
              go_upto_region 18 with fail
              cases q2 with
              | false =>
                have HE := hid (show insR B (m : Int) false true false 3 0 (n18 : Int) 0 k18 = res from HE.out)
                have HE3 := hid (show res = .ok (⟨(m : Int), 0, (n18 : Int), 0⟩, k18) from HE.out.symm)
                have x0 : v19.cell? ⟨xb, 0, none⟩ = some (.int .i64 (m : Int)) := cell_of_row _ _ 0 _ _ _ HX19.out
                have x1 : v19.cell? ⟨xb, 1, none⟩ = some (.int .i64 0) := cell_of_row _ _ 1 _ _ _ HX19.out
                have x2 : v19.cell? ⟨xb, 2, none⟩ = some (.int .i64 (n18 : Int)) := cell_of_row _ _ 2 _ _ _ HX19.out
                have x3 : v19.cell? ⟨xb, 3, none⟩ = some (.int .i64 0) := cell_of_row _ _ 3 _ _ _ HX19.out
                have d0 : v19.cell? ⟨rb, 0, none⟩ = some (.int .i64 0) := cell_of_row _ _ 0 _ _ _ HZ19.out
                have f0 : v19.frozen? ⟨rb, 0, none⟩ = false := frz_row HZ19.out 0
                have d1 : v19.cell? ⟨rb, 1, none⟩ = some (.int .i64 0) := cell_of_row _ _ 1 _ _ _ HZ19.out
                have f1 : v19.frozen? ⟨rb, 1, none⟩ = false := frz_row HZ19.out 1
                have d2 : v19.cell? ⟨rb, 2, none⟩ = some (.int .i64 0) := cell_of_row _ _ 2 _ _ _ HZ19.out
                have f2 : v19.frozen? ⟨rb, 2, none⟩ = false := frz_row HZ19.out 2
                have d3 : v19.cell? ⟨rb, 3, none⟩ = some (.int .i64 0) := cell_of_row _ _ 3 _ _ _ HZ19.out
                have f3 : v19.frozen? ⟨rb, 3, none⟩ = false := frz_row HZ19.out 3
                go_wp2_with fail
                have S0 := HZ19
                have R0 := HR19
                have G0 := HG19
                have S1 := hid (show (v19.setCell ⟨rb, 0, none⟩ (.int .i64 (m : Int))).heap[rb]? = some (.cells #[.int .i64 (m : Int), .int .i64 0, .int .i64 0, .int .i64 0] 68 (0, 0)) from by rw [setCell_eq_setRow _ _ _ _ _ _ _ S0.out, setRow_heap _ _ _ _ _ _ S0.out]; rfl)
                have R1 := hid (dm_new (j := 0) (v := .int .i64 (m : Int)) R0.out S0.out K0.out)
                have G1 := hid (gb_new (j := 0) (v := .int .i64 (m : Int)) G0.out S0.out K1.out)
                have S2 := hid (show ((v19.setCell ⟨rb, 0, none⟩ (.int .i64 (m : Int))).setCell ⟨rb, 1, none⟩ (.int .i64 0)).heap[rb]? = some (.cells #[.int .i64 (m : Int), .int .i64 0, .int .i64 0, .int .i64 0] 68 (0, 0)) from by rw [setCell_eq_setRow _ _ _ _ _ _ _ S1.out, setRow_heap _ _ _ _ _ _ S1.out]; rfl)
                have R2 := hid (dm_new (j := 1) (v := .int .i64 0) R1.out S1.out K0.out)
                have G2 := hid (gb_new (j := 1) (v := .int .i64 0) G1.out S1.out K1.out)
                have S3 := hid (show (((v19.setCell ⟨rb, 0, none⟩ (.int .i64 (m : Int))).setCell ⟨rb, 1, none⟩ (.int .i64 0)).setCell ⟨rb, 2, none⟩ (.int .i64 (n18 : Int))).heap[rb]? = some (.cells #[.int .i64 (m : Int), .int .i64 0, .int .i64 (n18 : Int), .int .i64 0] 68 (0, 0)) from by rw [setCell_eq_setRow _ _ _ _ _ _ _ S2.out, setRow_heap _ _ _ _ _ _ S2.out]; rfl)
                have R3 := hid (dm_new (j := 2) (v := .int .i64 (n18 : Int)) R2.out S2.out K0.out)
                have G3 := hid (gb_new (j := 2) (v := .int .i64 (n18 : Int)) G2.out S2.out K1.out)
                have S4 := hid (show ((((v19.setCell ⟨rb, 0, none⟩ (.int .i64 (m : Int))).setCell ⟨rb, 1, none⟩ (.int .i64 0)).setCell ⟨rb, 2, none⟩ (.int .i64 (n18 : Int))).setCell ⟨rb, 3, none⟩ (.int .i64 0)).heap[rb]? = some (.cells #[.int .i64 (m : Int), .int .i64 0, .int .i64 (n18 : Int), .int .i64 0] 68 (0, 0)) from by rw [setCell_eq_setRow _ _ _ _ _ _ _ S3.out, setRow_heap _ _ _ _ _ _ S3.out]; rfl)
                have R4 := hid (dm_new (j := 3) (v := .int .i64 0) R3.out S3.out K0.out)
                have G4 := hid (gb_new (j := 3) (v := .int .i64 0) G3.out S3.out K1.out)
                generalize ((((v19.setCell ⟨rb, 0, none⟩ (.int .i64 (m : Int))).setCell ⟨rb, 1, none⟩ (.int .i64 0)).setCell ⟨rb, 2, none⟩ (.int .i64 (n18 : Int))).setCell ⟨rb, 3, none⟩ (.int .i64 0)) = U2 at *
                refine ⟨rfl, .agg #[.int .i64 (m : Int), .int .i64 0, .int .i64 (n18 : Int), .int .i64 0], results_cell_row Try.results34 _ U2 rb 68 #[.int .i64 (m : Int), .int .i64 0, .int .i64 (n18 : Int), .int .i64 0] (0, 0) _ rfl S4.out Try.underlying68 rfl infoIn, ?_⟩
                rw [HE3.out]
                exact ⟨_, rfl, rfl, R4.out, G4.out⟩
              | true =>
                have HC := hid (dcnt_any HR19.out 0 65535 (by decide) (by decide))
                obtain ⟨r0, hr0⟩ : ∃ r0, r0 = cntD B k18 0 65535 9 0 k18 0 := ⟨_, rfl⟩
                have hq : optP true B k18 = dbnd r0 (fun n k1 => .ok ((n : Int), k1)) := by rw [hr0]; rfl
                rw [← hr0] at HC
                have he : dbnd (optP true B k18) (fun w k1 => insR B (m : Int) false true true 3 0 (n18 : Int) w k1) = res := HE.out
                rw [hq] at he
                clear hr0 hq
                cases r0 with
                | error e0 =>
                  obtain ⟨c0, p0⟩ := e0
                  have HE3 := hid (show res = .error (c0, p0) from he.symm)
                  clear he
                  go_wp2_with fail
                  refine HC.out.mono ?_
                  rintro e u20 ⟨vv, k5, rfl, rfl, h0, h3, h4⟩
                  have HC0 := hid h0
                  have HR20 := hid h3
                  have HX20 := hid (h4.at HX19.out K5.out)
                  have HZ20 := hid (h4.at HZ19.out K6.out)
                  have HG20 := hid (HG19.out.trans h4)
                  clear h0 h3 h4 HC
                  have f5 : u20.frozen? ⟨xb, 3, none⟩ = false := frz_row HX20.out 3
                  have c5 : u20.cell? ⟨xb, 3, none⟩ = some (.int .i64 0) := cell_of_row _ _ 3 _ _ _ HX20.out
                  go_upto_region 20 with fail
                  have HX21 := hid (show (u20.setCell ⟨xb, 3, none⟩ (.int .i64 0)).heap[xb]? = some (.cells #[.int .i64 (m : Int), .int .i64 0, .int .i64 (n18 : Int), .int .i64 0] 68 (0, 0)) from by rw [setCell_eq_setRow _ _ _ _ _ _ _ HX20.out, setRow_heap _ _ _ _ _ _ HX20.out]; rfl)
                  have HZ21 := hid (show (u20.setCell ⟨xb, 3, none⟩ (.int .i64 0)).heap[rb]? = some (.cells #[.int .i64 0, .int .i64 0, .int .i64 0, .int .i64 0] 68 (0, 0)) from by rw [setCell_eq_setRow _ _ _ _ _ _ _ HX20.out, setRow_other _ _ _ _ K2.out]; exact HZ20.out)
                  have HR21 := hid (dm_new (j := 3) (v := .int .i64 0) HR20.out HX20.out K3.out)
                  have HG21 := hid (gb_new (j := 3) (v := .int .i64 0) HG20.out HX20.out K4.out)
                  generalize (u20.setCell ⟨xb, 3, none⟩ (.int .i64 0)) = v21 at *
                  clear f5 c5
                  have x0 : v21.cell? ⟨xb, 0, none⟩ = some (.int .i64 (m : Int)) := cell_of_row _ _ 0 _ _ _ HX21.out
                  have x1 : v21.cell? ⟨xb, 1, none⟩ = some (.int .i64 0) := cell_of_row _ _ 1 _ _ _ HX21.out
                  have x2 : v21.cell? ⟨xb, 2, none⟩ = some (.int .i64 (n18 : Int)) := cell_of_row _ _ 2 _ _ _ HX21.out
                  have x3 : v21.cell? ⟨xb, 3, none⟩ = some (.int .i64 0) := cell_of_row _ _ 3 _ _ _ HX21.out
                  have d0 : v21.cell? ⟨rb, 0, none⟩ = some (.int .i64 0) := cell_of_row _ _ 0 _ _ _ HZ21.out
                  have f0 : v21.frozen? ⟨rb, 0, none⟩ = false := frz_row HZ21.out 0
                  have d1 : v21.cell? ⟨rb, 1, none⟩ = some (.int .i64 0) := cell_of_row _ _ 1 _ _ _ HZ21.out
                  have f1 : v21.frozen? ⟨rb, 1, none⟩ = false := frz_row HZ21.out 1
                  have d2 : v21.cell? ⟨rb, 2, none⟩ = some (.int .i64 0) := cell_of_row _ _ 2 _ _ _ HZ21.out
                  have f2 : v21.frozen? ⟨rb, 2, none⟩ = false := frz_row HZ21.out 2
                  have d3 : v21.cell? ⟨rb, 3, none⟩ = some (.int .i64 0) := cell_of_row _ _ 3 _ _ _ HZ21.out
                  have f3 : v21.frozen? ⟨rb, 3, none⟩ = false := frz_row HZ21.out 3
                  go_wp2_with fail
                  have S0 := HZ21
                  have R0 := HR21
                  have G0 := HG21
                  have S1 := hid (show (v21.setCell ⟨rb, 0, none⟩ (.int .i64 (m : Int))).heap[rb]? = some (.cells #[.int .i64 (m : Int), .int .i64 0, .int .i64 0, .int .i64 0] 68 (0, 0)) from by rw [setCell_eq_setRow _ _ _ _ _ _ _ S0.out, setRow_heap _ _ _ _ _ _ S0.out]; rfl)
                  have R1 := hid (dm_new (j := 0) (v := .int .i64 (m : Int)) R0.out S0.out K0.out)
                  have G1 := hid (gb_new (j := 0) (v := .int .i64 (m : Int)) G0.out S0.out K1.out)
                  have S2 := hid (show ((v21.setCell ⟨rb, 0, none⟩ (.int .i64 (m : Int))).setCell ⟨rb, 1, none⟩ (.int .i64 0)).heap[rb]? = some (.cells #[.int .i64 (m : Int), .int .i64 0, .int .i64 0, .int .i64 0] 68 (0, 0)) from by rw [setCell_eq_setRow _ _ _ _ _ _ _ S1.out, setRow_heap _ _ _ _ _ _ S1.out]; rfl)
                  have R2 := hid (dm_new (j := 1) (v := .int .i64 0) R1.out S1.out K0.out)
                  have G2 := hid (gb_new (j := 1) (v := .int .i64 0) G1.out S1.out K1.out)
                  have S3 := hid (show (((v21.setCell ⟨rb, 0, none⟩ (.int .i64 (m : Int))).setCell ⟨rb, 1, none⟩ (.int .i64 0)).setCell ⟨rb, 2, none⟩ (.int .i64 (n18 : Int))).heap[rb]? = some (.cells #[.int .i64 (m : Int), .int .i64 0, .int .i64 (n18 : Int), .int .i64 0] 68 (0, 0)) from by rw [setCell_eq_setRow _ _ _ _ _ _ _ S2.out, setRow_heap _ _ _ _ _ _ S2.out]; rfl)
                  have R3 := hid (dm_new (j := 2) (v := .int .i64 (n18 : Int)) R2.out S2.out K0.out)
                  have G3 := hid (gb_new (j := 2) (v := .int .i64 (n18 : Int)) G2.out S2.out K1.out)
                  have S4 := hid (show ((((v21.setCell ⟨rb, 0, none⟩ (.int .i64 (m : Int))).setCell ⟨rb, 1, none⟩ (.int .i64 0)).setCell ⟨rb, 2, none⟩ (.int .i64 (n18 : Int))).setCell ⟨rb, 3, none⟩ (.int .i64 0)).heap[rb]? = some (.cells #[.int .i64 (m : Int), .int .i64 0, .int .i64 (n18 : Int), .int .i64 0] 68 (0, 0)) from by rw [setCell_eq_setRow _ _ _ _ _ _ _ S3.out, setRow_heap _ _ _ _ _ _ S3.out]; rfl)
                  have R4 := hid (dm_new (j := 3) (v := .int .i64 0) R3.out S3.out K0.out)
                  have G4 := hid (gb_new (j := 3) (v := .int .i64 0) G3.out S3.out K1.out)
                  generalize ((((v21.setCell ⟨rb, 0, none⟩ (.int .i64 (m : Int))).setCell ⟨rb, 1, none⟩ (.int .i64 0)).setCell ⟨rb, 2, none⟩ (.int .i64 (n18 : Int))).setCell ⟨rb, 3, none⟩ (.int .i64 0)) = U2 at *
                  refine ⟨rfl, .agg #[.int .i64 (m : Int), .int .i64 0, .int .i64 (n18 : Int), .int .i64 0], results_cell_row Try.results34 _ U2 rb 68 #[.int .i64 (m : Int), .int .i64 0, .int .i64 (n18 : Int), .int .i64 0] (0, 0) _ rfl S4.out Try.underlying68 rfl infoIn, ?_⟩
                  rw [HE3.out]
                  exact ⟨_, _, rfl, ⟨⟨(m : Int), 0, (n18 : Int), 0⟩, rfl⟩, HC0.out, R4.out, G4.out⟩
                | ok y0 =>
                  obtain ⟨n22, k22⟩ := y0
                  have HE := hid (show insR B (m : Int) false true true 3 0 (n18 : Int) (n22 : Int) k22 = res from he)
                  clear he
                  go_wp2_with fail
                  refine HC.out.mono ?_
                  rintro e u22 ⟨vv, rfl, rfl, h3, h4⟩
                  have HR22 := hid h3
                  have HX22 := hid (h4.at HX19.out K5.out)
                  have HZ22 := hid (h4.at HZ19.out K6.out)
                  have HG22 := hid (HG19.out.trans h4)
                  clear h3 h4 HC
                  have f5 : u22.frozen? ⟨xb, 3, none⟩ = false := frz_row HX22.out 3
                  have c5 : u22.cell? ⟨xb, 3, none⟩ = some (.int .i64 0) := cell_of_row _ _ 3 _ _ _ HX22.out
                  go_upto_region 20 with fail
                  have HX23 := hid (show (u22.setCell ⟨xb, 3, none⟩ (.int .i64 (n22 : Int))).heap[xb]? = some (.cells #[.int .i64 (m : Int), .int .i64 0, .int .i64 (n18 : Int), .int .i64 (n22 : Int)] 68 (0, 0)) from by rw [setCell_eq_setRow _ _ _ _ _ _ _ HX22.out, setRow_heap _ _ _ _ _ _ HX22.out]; rfl)
                  have HZ23 := hid (show (u22.setCell ⟨xb, 3, none⟩ (.int .i64 (n22 : Int))).heap[rb]? = some (.cells #[.int .i64 0, .int .i64 0, .int .i64 0, .int .i64 0] 68 (0, 0)) from by rw [setCell_eq_setRow _ _ _ _ _ _ _ HX22.out, setRow_other _ _ _ _ K2.out]; exact HZ22.out)
                  have HR23 := hid (dm_new (j := 3) (v := .int .i64 (n22 : Int)) HR22.out HX22.out K3.out)
                  have HG23 := hid (gb_new (j := 3) (v := .int .i64 (n22 : Int)) HG22.out HX22.out K4.out)
                  generalize (u22.setCell ⟨xb, 3, none⟩ (.int .i64 (n22 : Int))) = v23 at *
                  clear f5 c5
                  have HE3 := hid (show res = .ok (⟨(m : Int), 0, (n18 : Int), (n22 : Int)⟩, k22) from HE.out.symm)
                  have x0 : v23.cell? ⟨xb, 0, none⟩ = some (.int .i64 (m : Int)) := cell_of_row _ _ 0 _ _ _ HX23.out
                  have x1 : v23.cell? ⟨xb, 1, none⟩ = some (.int .i64 0) := cell_of_row _ _ 1 _ _ _ HX23.out
                  have x2 : v23.cell? ⟨xb, 2, none⟩ = some (.int .i64 (n18 : Int)) := cell_of_row _ _ 2 _ _ _ HX23.out
                  have x3 : v23.cell? ⟨xb, 3, none⟩ = some (.int .i64 (n22 : Int)) := cell_of_row _ _ 3 _ _ _ HX23.out
                  have d0 : v23.cell? ⟨rb, 0, none⟩ = some (.int .i64 0) := cell_of_row _ _ 0 _ _ _ HZ23.out
                  have f0 : v23.frozen? ⟨rb, 0, none⟩ = false := frz_row HZ23.out 0
                  have d1 : v23.cell? ⟨rb, 1, none⟩ = some (.int .i64 0) := cell_of_row _ _ 1 _ _ _ HZ23.out
                  have f1 : v23.frozen? ⟨rb, 1, none⟩ = false := frz_row HZ23.out 1
                  have d2 : v23.cell? ⟨rb, 2, none⟩ = some (.int .i64 0) := cell_of_row _ _ 2 _ _ _ HZ23.out
                  have f2 : v23.frozen? ⟨rb, 2, none⟩ = false := frz_row HZ23.out 2
                  have d3 : v23.cell? ⟨rb, 3, none⟩ = some (.int .i64 0) := cell_of_row _ _ 3 _ _ _ HZ23.out
                  have f3 : v23.frozen? ⟨rb, 3, none⟩ = false := frz_row HZ23.out 3
                  go_wp2_with fail
                  have S0 := HZ23
                  have R0 := HR23
                  have G0 := HG23
                  have S1 := hid (show (v23.setCell ⟨rb, 0, none⟩ (.int .i64 (m : Int))).heap[rb]? = some (.cells #[.int .i64 (m : Int), .int .i64 0, .int .i64 0, .int .i64 0] 68 (0, 0)) from by rw [setCell_eq_setRow _ _ _ _ _ _ _ S0.out, setRow_heap _ _ _ _ _ _ S0.out]; rfl)
                  have R1 := hid (dm_new (j := 0) (v := .int .i64 (m : Int)) R0.out S0.out K0.out)
                  have G1 := hid (gb_new (j := 0) (v := .int .i64 (m : Int)) G0.out S0.out K1.out)
                  have S2 := hid (show ((v23.setCell ⟨rb, 0, none⟩ (.int .i64 (m : Int))).setCell ⟨rb, 1, none⟩ (.int .i64 0)).heap[rb]? = some (.cells #[.int .i64 (m : Int), .int .i64 0, .int .i64 0, .int .i64 0] 68 (0, 0)) from by rw [setCell_eq_setRow _ _ _ _ _ _ _ S1.out, setRow_heap _ _ _ _ _ _ S1.out]; rfl)
                  have R2 := hid (dm_new (j := 1) (v := .int .i64 0) R1.out S1.out K0.out)
                  have G2 := hid (gb_new (j := 1) (v := .int .i64 0) G1.out S1.out K1.out)
                  have S3 := hid (show (((v23.setCell ⟨rb, 0, none⟩ (.int .i64 (m : Int))).setCell ⟨rb, 1, none⟩ (.int .i64 0)).setCell ⟨rb, 2, none⟩ (.int .i64 (n18 : Int))).heap[rb]? = some (.cells #[.int .i64 (m : Int), .int .i64 0, .int .i64 (n18 : Int), .int .i64 0] 68 (0, 0)) from by rw [setCell_eq_setRow _ _ _ _ _ _ _ S2.out, setRow_heap _ _ _ _ _ _ S2.out]; rfl)
                  have R3 := hid (dm_new (j := 2) (v := .int .i64 (n18 : Int)) R2.out S2.out K0.out)
                  have G3 := hid (gb_new (j := 2) (v := .int .i64 (n18 : Int)) G2.out S2.out K1.out)
                  have S4 := hid (show ((((v23.setCell ⟨rb, 0, none⟩ (.int .i64 (m : Int))).setCell ⟨rb, 1, none⟩ (.int .i64 0)).setCell ⟨rb, 2, none⟩ (.int .i64 (n18 : Int))).setCell ⟨rb, 3, none⟩ (.int .i64 (n22 : Int))).heap[rb]? = some (.cells #[.int .i64 (m : Int), .int .i64 0, .int .i64 (n18 : Int), .int .i64 (n22 : Int)] 68 (0, 0)) from by rw [setCell_eq_setRow _ _ _ _ _ _ _ S3.out, setRow_heap _ _ _ _ _ _ S3.out]; rfl)
                  have R4 := hid (dm_new (j := 3) (v := .int .i64 (n22 : Int)) R3.out S3.out K0.out)
                  have G4 := hid (gb_new (j := 3) (v := .int .i64 (n22 : Int)) G3.out S3.out K1.out)
                  generalize ((((v23.setCell ⟨rb, 0, none⟩ (.int .i64 (m : Int))).setCell ⟨rb, 1, none⟩ (.int .i64 0)).setCell ⟨rb, 2, none⟩ (.int .i64 (n18 : Int))).setCell ⟨rb, 3, none⟩ (.int .i64 (n22 : Int))) = U2 at *
                  refine ⟨rfl, .agg #[.int .i64 (m : Int), .int .i64 0, .int .i64 (n18 : Int), .int .i64 (n22 : Int)], results_cell_row Try.results34 _ U2 rb 68 #[.int .i64 (m : Int), .int .i64 0, .int .i64 (n18 : Int), .int .i64 (n22 : Int)] (0, 0) _ rfl S4.out Try.underlying68 rfl infoIn, ?_⟩
                  rw [HE3.out]
                  exact ⟨_, rfl, rfl, R4.out, G4.out⟩
        | true =>
          have HC := hid (dcnt_any HR5.out 0 65535 (by decide) (by decide))
          obtain ⟨r0, hr0⟩ : ∃ r0, r0 = cntD B (k + 1) 0 65535 9 0 (k + 1) 0 := ⟨_, rfl⟩
          have hq : optP true B (k + 1) = dbnd r0 (fun n k1 => .ok ((n : Int), k1)) := by rw [hr0]; rfl
          rw [← hr0] at HC
          have he : dbnd (optP true B (k + 1)) (fun w k1 => insR B (m : Int) true q1 q2 1 w 0 0 k1) = res := HE.out
          rw [hq] at he
          clear hr0 hq
          cases r0 with
          | error e0 =>
            obtain ⟨c0, p0⟩ := e0
            have HE3 := hid (show res = .error (c0, p0) from he.symm)
            clear he
            go_wp2_with fail
            refine HC.out.mono ?_
            rintro e u24 ⟨vv, k5, rfl, rfl, h0, h3, h4⟩
            have HC0 := hid h0
            have HR24 := hid h3
            have HX24 := hid (h4.at HX5.out K5.out)
            have HZ24 := hid (h4.at HZ5.out K6.out)
            have HG24 := hid (HG5.out.trans h4)
            clear h0 h3 h4 HC
            have f5 : u24.frozen? ⟨xb, 1, none⟩ = false := frz_row HX24.out 1
            have c5 : u24.cell? ⟨xb, 1, none⟩ = some (.int .i64 0) := cell_of_row _ _ 1 _ _ _ HX24.out
            go_upto_region 16 with fail
            have HX25 := hid (show (u24.setCell ⟨xb, 1, none⟩ (.int .i64 0)).heap[xb]? = some (.cells #[.int .i64 (m : Int), .int .i64 0, .int .i64 0, .int .i64 0] 68 (0, 0)) from by rw [setCell_eq_setRow _ _ _ _ _ _ _ HX24.out, setRow_heap _ _ _ _ _ _ HX24.out]; rfl)
            have HZ25 := hid (show (u24.setCell ⟨xb, 1, none⟩ (.int .i64 0)).heap[rb]? = some (.cells #[.int .i64 0, .int .i64 0, .int .i64 0, .int .i64 0] 68 (0, 0)) from by rw [setCell_eq_setRow _ _ _ _ _ _ _ HX24.out, setRow_other _ _ _ _ K2.out]; exact HZ24.out)
            have HR25 := hid (dm_new (j := 1) (v := .int .i64 0) HR24.out HX24.out K3.out)
            have HG25 := hid (gb_new (j := 1) (v := .int .i64 0) HG24.out HX24.out K4.out)
            generalize (u24.setCell ⟨xb, 1, none⟩ (.int .i64 0)) = v25 at *
            clear f5 c5
            go_upto_region 16 with fail
            cases q1 with
            | false =>
              go_upto_region 18 with fail
              cases q2 with
              | false =>
                have x0 : v25.cell? ⟨xb, 0, none⟩ = some (.int .i64 (m : Int)) := cell_of_row _ _ 0 _ _ _ HX25.out
                have x1 : v25.cell? ⟨xb, 1, none⟩ = some (.int .i64 0) := cell_of_row _ _ 1 _ _ _ HX25.out
                have x2 : v25.cell? ⟨xb, 2, none⟩ = some (.int .i64 0) := cell_of_row _ _ 2 _ _ _ HX25.out
                have x3 : v25.cell? ⟨xb, 3, none⟩ = some (.int .i64 0) := cell_of_row _ _ 3 _ _ _ HX25.out
                have d0 : v25.cell? ⟨rb, 0, none⟩ = some (.int .i64 0) := cell_of_row _ _ 0 _ _ _ HZ25.out
                have f0 : v25.frozen? ⟨rb, 0, none⟩ = false := frz_row HZ25.out 0
                have d1 : v25.cell? ⟨rb, 1, none⟩ = some (.int .i64 0) := cell_of_row _ _ 1 _ _ _ HZ25.out
                have f1 : v25.frozen? ⟨rb, 1, none⟩ = false := frz_row HZ25.out 1
                have d2 : v25.cell? ⟨rb, 2, none⟩ = some (.int .i64 0) := cell_of_row _ _ 2 _ _ _ HZ25.out
                have f2 : v25.frozen? ⟨rb, 2, none⟩ = false := frz_row HZ25.out 2
                have d3 : v25.cell? ⟨rb, 3, none⟩ = some (.int .i64 0) := cell_of_row _ _ 3 _ _ _ HZ25.out
                have f3 : v25.frozen? ⟨rb, 3, none⟩ = false := frz_row HZ25.out 3
                go_wp2_with fail
                have S0 := HZ25
                have R0 := HR25
                have G0 := HG25
                have S1 := hid (show (v25.setCell ⟨rb, 0, none⟩ (.int .i64 (m : Int))).heap[rb]? = some (.cells #[.int .i64 (m : Int), .int .i64 0, .int .i64 0, .int .i64 0] 68 (0, 0)) from by rw [setCell_eq_setRow _ _ _ _ _ _ _ S0.out, setRow_heap _ _ _ _ _ _ S0.out]; rfl)
                have R1 := hid (dm_new (j := 0) (v := .int .i64 (m : Int)) R0.out S0.out K0.out)
                have G1 := hid (gb_new (j := 0) (v := .int .i64 (m : Int)) G0.out S0.out K1.out)
                have S2 := hid (show ((v25.setCell ⟨rb, 0, none⟩ (.int .i64 (m : Int))).setCell ⟨rb, 1, none⟩ (.int .i64 0)).heap[rb]? = some (.cells #[.int .i64 (m : Int), .int .i64 0, .int .i64 0, .int .i64 0] 68 (0, 0)) from by rw [setCell_eq_setRow _ _ _ _ _ _ _ S1.out, setRow_heap _ _ _ _ _ _ S1.out]; rfl)
                have R2 := hid (dm_new (j := 1) (v := .int .i64 0) R1.out S1.out K0.out)
                have G2 := hid (gb_new (j := 1) (v := .int .i64 0) G1.out S1.out K1.out)
                have S3 := hid (show (((v25.setCell ⟨rb, 0, none⟩ (.int .i64 (m : Int))).setCell ⟨rb, 1, none⟩ (.int .i64 0)).setCell ⟨rb, 2, none⟩ (.int .i64 0)).heap[rb]? = some (.cells #[.int .i64 (m : Int), .int .i64 0, .int .i64 0, .int .i64 0] 68 (0, 0)) from by rw [setCell_eq_setRow _ _ _ _ _ _ _ S2.out, setRow_heap _ _ _ _ _ _ S2.out]; rfl)
                have R3 := hid (dm_new (j := 2) (v := .int .i64 0) R2.out S2.out K0.out)
                have G3 := hid (gb_new (j := 2) (v := .int .i64 0) G2.out S2.out K1.out)
                have S4 := hid (show ((((v25.setCell ⟨rb, 0, none⟩ (.int .i64 (m : Int))).setCell ⟨rb, 1, none⟩ (.int .i64 0)).setCell ⟨rb, 2, none⟩ (.int .i64 0)).setCell ⟨rb, 3, none⟩ (.int .i64 0)).heap[rb]? = some (.cells #[.int .i64 (m : Int), .int .i64 0, .int .i64 0, .int .i64 0] 68 (0, 0)) from by rw [setCell_eq_setRow _ _ _ _ _ _ _ S3.out, setRow_heap _ _ _ _ _ _ S3.out]; rfl)
                have R4 := hid (dm_new (j := 3) (v := .int .i64 0) R3.out S3.out K0.out)
                have G4 := hid (gb_new (j := 3) (v := .int .i64 0) G3.out S3.out K1.out)
                generalize ((((v25.setCell ⟨rb, 0, none⟩ (.int .i64 (m : Int))).setCell ⟨rb, 1, none⟩ (.int .i64 0)).setCell ⟨rb, 2, none⟩ (.int .i64 0)).setCell ⟨rb, 3, none⟩ (.int .i64 0)) = U2 at *
                refine ⟨rfl, .agg #[.int .i64 (m : Int), .int .i64 0, .int .i64 0, .int .i64 0], results_cell_row Try.results34 _ U2 rb 68 #[.int .i64 (m : Int), .int .i64 0, .int .i64 0, .int .i64 0] (0, 0) _ rfl S4.out Try.underlying68 rfl infoIn, ?_⟩
                rw [HE3.out]
                exact ⟨_, _, rfl, ⟨⟨(m : Int), 0, 0, 0⟩, rfl⟩, HC0.out, R4.out, G4.out⟩
              | true =>
                have HC := hid (dcnt_bad HR25.out HC0.out 0 65535)
                go_wp2_with fail
                refine HC.out.mono ?_
                rintro e u26 ⟨rfl, hw⟩
                have hw2 := hw.symm
                subst hw2
                clear hw HC
                have f5 : v25.frozen? ⟨xb, 3, none⟩ = false := frz_row HX25.out 3
                have c5 : v25.cell? ⟨xb, 3, none⟩ = some (.int .i64 0) := cell_of_row _ _ 3 _ _ _ HX25.out
                go_upto_region 20 with fail
                have HX26 := hid (show (v25.setCell ⟨xb, 3, none⟩ (.int .i64 0)).heap[xb]? = some (.cells #[.int .i64 (m : Int), .int .i64 0, .int .i64 0, .int .i64 0] 68 (0, 0)) from by rw [setCell_eq_setRow _ _ _ _ _ _ _ HX25.out, setRow_heap _ _ _ _ _ _ HX25.out]; rfl)
                have HZ26 := hid (show (v25.setCell ⟨xb, 3, none⟩ (.int .i64 0)).heap[rb]? = some (.cells #[.int .i64 0, .int .i64 0, .int .i64 0, .int .i64 0] 68 (0, 0)) from by rw [setCell_eq_setRow _ _ _ _ _ _ _ HX25.out, setRow_other _ _ _ _ K2.out]; exact HZ25.out)
                have HR26 := hid (dm_new (j := 3) (v := .int .i64 0) HR25.out HX25.out K3.out)
                have HG26 := hid (gb_new (j := 3) (v := .int .i64 0) HG25.out HX25.out K4.out)
                generalize (v25.setCell ⟨xb, 3, none⟩ (.int .i64 0)) = v26 at *
                clear f5 c5
                have x0 : v26.cell? ⟨xb, 0, none⟩ = some (.int .i64 (m : Int)) := cell_of_row _ _ 0 _ _ _ HX26.out
                have x1 : v26.cell? ⟨xb, 1, none⟩ = some (.int .i64 0) := cell_of_row _ _ 1 _ _ _ HX26.out
                have x2 : v26.cell? ⟨xb, 2, none⟩ = some (.int .i64 0) := cell_of_row _ _ 2 _ _ _ HX26.out
                have x3 : v26.cell? ⟨xb, 3, none⟩ = some (.int .i64 0) := cell_of_row _ _ 3 _ _ _ HX26.out
                have d0 : v26.cell? ⟨rb, 0, none⟩ = some (.int .i64 0) := cell_of_row _ _ 0 _ _ _ HZ26.out
                have f0 : v26.frozen? ⟨rb, 0, none⟩ = false := frz_row HZ26.out 0
                have d1 : v26.cell? ⟨rb, 1, none⟩ = some (.int .i64 0) := cell_of_row _ _ 1 _ _ _ HZ26.out
                have f1 : v26.frozen? ⟨rb, 1, none⟩ = false := frz_row HZ26.out 1
                have d2 : v26.cell? ⟨rb, 2, none⟩ = some (.int .i64 0) := cell_of_row _ _ 2 _ _ _ HZ26.out
                have f2 : v26.frozen? ⟨rb, 2, none⟩ = false := frz_row HZ26.out 2
                have d3 : v26.cell? ⟨rb, 3, none⟩ = some (.int .i64 0) := cell_of_row _ _ 3 _ _ _ HZ26.out
                have f3 : v26.frozen? ⟨rb, 3, none⟩ = false := frz_row HZ26.out 3
                go_wp2_with fail
                have S0 := HZ26
                have R0 := HR26
                have G0 := HG26
                have S1 := hid (show (v26.setCell ⟨rb, 0, none⟩ (.int .i64 (m : Int))).heap[rb]? = some (.cells #[.int .i64 (m : Int), .int .i64 0, .int .i64 0, .int .i64 0] 68 (0, 0)) from by rw [setCell_eq_setRow _ _ _ _ _ _ _ S0.out, setRow_heap _ _ _ _ _ _ S0.out]; rfl)
                have R1 := hid (dm_new (j := 0) (v := .int .i64 (m : Int)) R0.out S0.out K0.out)
                have G1 := hid (gb_new (j := 0) (v := .int .i64 (m : Int)) G0.out S0.out K1.out)
                have S2 := hid (show ((v26.setCell ⟨rb, 0, none⟩ (.int .i64 (m : Int))).setCell ⟨rb, 1, none⟩ (.int .i64 0)).heap[rb]? = some (.cells #[.int .i64 (m : Int), .int .i64 0, .int .i64 0, .int .i64 0] 68 (0, 0)) from by rw [setCell_eq_setRow _ _ _ _ _ _ _ S1.out, setRow_heap _ _ _ _ _ _ S1.out]; rfl)
                have R2 := hid (dm_new (j := 1) (v := .int .i64 0) R1.out S1.out K0.out)
                have G2 := hid (gb_new (j := 1) (v := .int .i64 0) G1.out S1.out K1.out)
                have S3 := hid (show (((v26.setCell ⟨rb, 0, none⟩ (.int .i64 (m : Int))).setCell ⟨rb, 1, none⟩ (.int .i64 0)).setCell ⟨rb, 2, none⟩ (.int .i64 0)).heap[rb]? = some (.cells #[.int .i64 (m : Int), .int .i64 0, .int .i64 0, .int .i64 0] 68 (0, 0)) from by rw [setCell_eq_setRow _ _ _ _ _ _ _ S2.out, setRow_heap _ _ _ _ _ _ S2.out]; rfl)
                have R3 := hid (dm_new (j := 2) (v := .int .i64 0) R2.out S2.out K0.out)
                have G3 := hid (gb_new (j := 2) (v := .int .i64 0) G2.out S2.out K1.out)
                have S4 := hid (show ((((v26.setCell ⟨rb, 0, none⟩ (.int .i64 (m : Int))).setCell ⟨rb, 1, none⟩ (.int .i64 0)).setCell ⟨rb, 2, none⟩ (.int .i64 0)).setCell ⟨rb, 3, none⟩ (.int .i64 0)).heap[rb]? = some (.cells #[.int .i64 (m : Int), .int .i64 0, .int .i64 0, .int .i64 0] 68 (0, 0)) from by rw [setCell_eq_setRow _ _ _ _ _ _ _ S3.out, setRow_heap _ _ _ _ _ _ S3.out]; rfl)
                have R4 := hid (dm_new (j := 3) (v := .int .i64 0) R3.out S3.out K0.out)
                have G4 := hid (gb_new (j := 3) (v := .int .i64 0) G3.out S3.out K1.out)
                generalize ((((v26.setCell ⟨rb, 0, none⟩ (.int .i64 (m : Int))).setCell ⟨rb, 1, none⟩ (.int .i64 0)).setCell ⟨rb, 2, none⟩ (.int .i64 0)).setCell ⟨rb, 3, none⟩ (.int .i64 0)) = U2 at *
                refine ⟨rfl, .agg #[.int .i64 (m : Int), .int .i64 0, .int .i64 0, .int .i64 0], results_cell_row Try.results34 _ U2 rb 68 #[.int .i64 (m : Int), .int .i64 0, .int .i64 0, .int .i64 0] (0, 0) _ rfl S4.out Try.underlying68 rfl infoIn, ?_⟩
                rw [HE3.out]
                exact ⟨_, _, rfl, ⟨⟨(m : Int), 0, 0, 0⟩, rfl⟩, HC0.out, R4.out, G4.out⟩
            | true =>
              have HC := hid (dcnt_bad HR25.out HC0.out 0 65535)
              go_wp2_with fail
              refine HC.out.mono ?_
              rintro e u27 ⟨rfl, hw⟩
              have hw2 := hw.symm
              subst hw2
              clear hw HC
              have f5 : v25.frozen? ⟨xb, 2, none⟩ = false := frz_row HX25.out 2
              have c5 : v25.cell? ⟨xb, 2, none⟩ = some (.int .i64 0) := cell_of_row _ _ 2 _ _ _ HX25.out
              go_upto_region 18 with fail
              have HX27 := hid (show (v25.setCell ⟨xb, 2, none⟩ (.int .i64 0)).heap[xb]? = some (.cells #[.int .i64 (m : Int), .int .i64 0, .int .i64 0, .int .i64 0] 68 (0, 0)) from by rw [setCell_eq_setRow _ _ _ _ _ _ _ HX25.out, setRow_heap _ _ _ _ _ _ HX25.out]; rfl)
              have HZ27 := hid (show (v25.setCell ⟨xb, 2, none⟩ (.int .i64 0)).heap[rb]? = some (.cells #[.int .i64 0, .int .i64 0, .int .i64 0, .int .i64 0] 68 (0, 0)) from by rw [setCell_eq_setRow _ _ _ _ _ _ _ HX25.out, setRow_other _ _ _ _ K2.out]; exact HZ25.out)
              have HR27 := hid (dm_new (j := 2) (v := .int .i64 0) HR25.out HX25.out K3.out)
              have HG27 := hid (gb_new (j := 2) (v := .int .i64 0) HG25.out HX25.out K4.out)
              generalize (v25.setCell ⟨xb, 2, none⟩ (.int .i64 0)) = v27 at *
              clear f5 c5
              go_upto_region 18 with fail
              cases q2 with
              | false =>
                have x0 : v27.cell? ⟨xb, 0, none⟩ = some (.int .i64 (m : Int)) := cell_of_row _ _ 0 _ _ _ HX27.out
                have x1 : v27.cell? ⟨xb, 1, none⟩ = some (.int .i64 0) := cell_of_row _ _ 1 _ _ _ HX27.out
                have x2 : v27.cell? ⟨xb, 2, none⟩ = some (.int .i64 0) := cell_of_row _ _ 2 _ _ _ HX27.out
                have x3 : v27.cell? ⟨xb, 3, none⟩ = some (.int .i64 0) := cell_of_row _ _ 3 _ _ _ HX27.out
                have d0 : v27.cell? ⟨rb, 0, none⟩ = some (.int .i64 0) := cell_of_row _ _ 0 _ _ _ HZ27.out
                have f0 : v27.frozen? ⟨rb, 0, none⟩ = false := frz_row HZ27.out 0
                have d1 : v27.cell? ⟨rb, 1, none⟩ = some (.int .i64 0) := cell_of_row _ _ 1 _ _ _ HZ27.out
                have f1 : v27.frozen? ⟨rb, 1, none⟩ = false := frz_row HZ27.out 1
                have d2 : v27.cell? ⟨rb, 2, none⟩ = some (.int .i64 0) := cell_of_row _ _ 2 _ _ _ HZ27.out
                have f2 : v27.frozen? ⟨rb, 2, none⟩ = false := frz_row HZ27.out 2
                have d3 : v27.cell? ⟨rb, 3, none⟩ = some (.int .i64 0) := cell_of_row _ _ 3 _ _ _ HZ27.out
                have f3 : v27.frozen? ⟨rb, 3, none⟩ = false := frz_row HZ27.out 3
                go_wp2_with fail
                have S0 := HZ27
                have R0 := HR27
                have G0 := HG27
                have S1 := hid (show (v27.setCell ⟨rb, 0, none⟩ (.int .i64 (m : Int))).heap[rb]? = some (.cells #[.int .i64 (m : Int), .int .i64 0, .int .i64 0, .int .i64 0] 68 (0, 0)) from by rw [setCell_eq_setRow _ _ _ _ _ _ _ S0.out, setRow_heap _ _ _ _ _ _ S0.out]; rfl)
                have R1 := hid (dm_new (j := 0) (v := .int .i64 (m : Int)) R0.out S0.out K0.out)
                have G1 := hid (gb_new (j := 0) (v := .int .i64 (m : Int)) G0.out S0.out K1.out)
                have S2 := hid (show ((v27.setCell ⟨rb, 0, none⟩ (.int .i64 (m : Int))).setCell ⟨rb, 1, none⟩ (.int .i64 0)).heap[rb]? = some (.cells #[.int .i64 (m : Int), .int .i64 0, .int .i64 0, .int .i64 0] 68 (0, 0)) from by rw [setCell_eq_setRow _ _ _ _ _ _ _ S1.out, setRow_heap _ _ _ _ _ _ S1.out]; rfl)
                have R2 := hid (dm_new (j := 1) (v := .int .i64 0) R1.out S1.out K0.out)
                have G2 := hid (gb_new (j := 1) (v := .int .i64 0) G1.out S1.out K1.out)
                have S3 := hid (show (((v27.setCell ⟨rb, 0, none⟩ (.int .i64 (m : Int))).setCell ⟨rb, 1, none⟩ (.int .i64 0)).setCell ⟨rb, 2, none⟩ (.int .i64 0)).heap[rb]? = some (.cells #[.int .i64 (m : Int), .int .i64 0, .int .i64 0, .int .i64 0] 68 (0, 0)) from by rw [setCell_eq_setRow _ _ _ _ _ _ _ S2.out, setRow_heap _ _ _ _ _ _ S2.out]; rfl)
                have R3 := hid (dm_new (j := 2) (v := .int .i64 0) R2.out S2.out K0.out)
                have G3 := hid (gb_new (j := 2) (v := .int .i64 0) G2.out S2.out K1.out)
                have S4 := hid (show ((((v27.setCell ⟨rb, 0, none⟩ (.int .i64 (m : Int))).setCell ⟨rb, 1, none⟩ (.int .i64 0)).setCell ⟨rb, 2, none⟩ (.int .i64 0)).setCell ⟨rb, 3, none⟩ (.int .i64 0)).heap[rb]? = some (.cells #[.int .i64 (m : Int), .int .i64 0, .int .i64 0, .int .i64 0] 68 (0, 0)) from by rw [setCell_eq_setRow _ _ _ _ _ _ _ S3.out, setRow_heap _ _ _ _ _ _ S3.out]; rfl)
                have R4 := hid (dm_new (j := 3) (v := .int .i64 0) R3.out S3.out K0.out)
                have G4 := hid (gb_new (j := 3) (v := .int .i64 0) G3.out S3.out K1.out)
                generalize ((((v27.setCell ⟨rb, 0, none⟩ (.int .i64 (m : Int))).setCell ⟨rb, 1, none⟩ (.int .i64 0)).setCell ⟨rb, 2, none⟩ (.int .i64 0)).setCell ⟨rb, 3, none⟩ (.int .i64 0)) = U2 at *
                refine ⟨rfl, .agg #[.int .i64 (m : Int), .int .i64 0, .int .i64 0, .int .i64 0], results_cell_row Try.results34 _ U2 rb 68 #[.int .i64 (m : Int), .int .i64 0, .int .i64 0, .int .i64 0] (0, 0) _ rfl S4.out Try.underlying68 rfl infoIn, ?_⟩
                rw [HE3.out]
                exact ⟨_, _, rfl, ⟨⟨(m : Int), 0, 0, 0⟩, rfl⟩, HC0.out, R4.out, G4.out⟩
              | true =>
                have HC := hid (dcnt_bad HR27.out HC0.out 0 65535)
                go_wp2_with fail
                refine HC.out.mono ?_
                rintro e u28 ⟨rfl, hw⟩
                have hw2 := hw.symm
                subst hw2
                clear hw HC
                have f5 : v27.frozen? ⟨xb, 3, none⟩ = false := frz_row HX27.out 3
                have c5 : v27.cell? ⟨xb, 3, none⟩ = some (.int .i64 0) := cell_of_row _ _ 3 _ _ _ HX27.out
                go_upto_region 20 with fail
                have HX28 := hid (show (v27.setCell ⟨xb, 3, none⟩ (.int .i64 0)).heap[xb]? = some (.cells #[.int .i64 (m : Int), .int .i64 0, .int .i64 0, .int .i64 0] 68 (0, 0)) from by rw [setCell_eq_setRow _ _ _ _ _ _ _ HX27.out, setRow_heap _ _ _ _ _ _ HX27.out]; rfl)
                have HZ28 := hid (show (v27.setCell ⟨xb, 3, none⟩ (.int .i64 0)).heap[rb]? = some (.cells #[.int .i64 0, .int .i64 0, .int .i64 0, .int .i64 0] 68 (0, 0)) from by rw [setCell_eq_setRow _ _ _ _ _ _ _ HX27.out, setRow_other _ _ _ _ K2.out]; exact HZ27.out)
                have HR28 := hid (dm_new (j := 3) (v := .int .i64 0) HR27.out HX27.out K3.out)
                have HG28 := hid (gb_new (j := 3) (v := .int .i64 0) HG27.out HX27.out K4.out)
                generalize (v27.setCell ⟨xb, 3, none⟩ (.int .i64 0)) = v28 at *
                clear f5 c5
                have x0 : v28.cell? ⟨xb, 0, none⟩ = some (.int .i64 (m : Int)) := cell_of_row _ _ 0 _ _ _ HX28.out
                have x1 : v28.cell? ⟨xb, 1, none⟩ = some (.int .i64 0) := cell_of_row _ _ 1 _ _ _ HX28.out
                have x2 : v28.cell? ⟨xb, 2, none⟩ = some (.int .i64 0) := cell_of_row _ _ 2 _ _ _ HX28.out
                have x3 : v28.cell? ⟨xb, 3, none⟩ = some (.int .i64 0) := cell_of_row _ _ 3 _ _ _ HX28.out
                have d0 : v28.cell? ⟨rb, 0, none⟩ = some (.int .i64 0) := cell_of_row _ _ 0 _ _ _ HZ28.out
                have f0 : v28.frozen? ⟨rb, 0, none⟩ = false := frz_row HZ28.out 0
                have d1 : v28.cell? ⟨rb, 1, none⟩ = some (.int .i64 0) := cell_of_row _ _ 1 _ _ _ HZ28.out
                have f1 : v28.frozen? ⟨rb, 1, none⟩ = false := frz_row HZ28.out 1
                have d2 : v28.cell? ⟨rb, 2, none⟩ = some (.int .i64 0) := cell_of_row _ _ 2 _ _ _ HZ28.out
                have f2 : v28.frozen? ⟨rb, 2, none⟩ = false := frz_row HZ28.out 2
                have d3 : v28.cell? ⟨rb, 3, none⟩ = some (.int .i64 0) := cell_of_row _ _ 3 _ _ _ HZ28.out
                have f3 : v28.frozen? ⟨rb, 3, none⟩ = false := frz_row HZ28.out 3
                go_wp2_with fail
                have S0 := HZ28
                have R0 := HR28
                have G0 := HG28
                have S1 := hid (show (v28.setCell ⟨rb, 0, none⟩ (.int .i64 (m : Int))).heap[rb]? = some (.cells #[.int .i64 (m : Int), .int .i64 0, .int .i64 0, .int .i64 0] 68 (0, 0)) from by rw [setCell_eq_setRow _ _ _ _ _ _ _ S0.out, setRow_heap _ _ _ _ _ _ S0.out]; rfl)
                have R1 := hid (dm_new (j := 0) (v := .int .i64 (m : Int)) R0.out S0.out K0.out)
                have G1 := hid (gb_new (j := 0) (v := .int .i64 (m : Int)) G0.out S0.out K1.out)
                have S2 := hid (show ((v28.setCell ⟨rb, 0, none⟩ (.int .i64 (m : Int))).setCell ⟨rb, 1, none⟩ (.int .i64 0)).heap[rb]? = some (.cells #[.int .i64 (m : Int), .int .i64 0, .int .i64 0, .int .i64 0] 68 (0, 0)) from by rw [setCell_eq_setRow _ _ _ _ _ _ _ S1.out, setRow_heap _ _ _ _ _ _ S1.out]; rfl)
                have R2 := hid (dm_new (j := 1) (v := .int .i64 0) R1.out S1.out K0.out)
                have G2 := hid (gb_new (j := 1) (v := .int .i64 0) G1.out S1.out K1.out)
                have S3 := hid (show (((v28.setCell ⟨rb, 0, none⟩ (.int .i64 (m : Int))).setCell ⟨rb, 1, none⟩ (.int .i64 0)).setCell ⟨rb, 2, none⟩ (.int .i64 0)).heap[rb]? = some (.cells #[.int .i64 (m : Int), .int .i64 0, .int .i64 0, .int .i64 0] 68 (0, 0)) from by rw [setCell_eq_setRow _ _ _ _ _ _ _ S2.out, setRow_heap _ _ _ _ _ _ S2.out]; rfl)
                have R3 := hid (dm_new (j := 2) (v := .int .i64 0) R2.out S2.out K0.out)
                have G3 := hid (gb_new (j := 2) (v := .int .i64 0) G2.out S2.out K1.out)
                have S4 := hid (show ((((v28.setCell ⟨rb, 0, none⟩ (.int .i64 (m : Int))).setCell ⟨rb, 1, none⟩ (.int .i64 0)).setCell ⟨rb, 2, none⟩ (.int .i64 0)).setCell ⟨rb, 3, none⟩ (.int .i64 0)).heap[rb]? = some (.cells #[.int .i64 (m : Int), .int .i64 0, .int .i64 0, .int .i64 0] 68 (0, 0)) from by rw [setCell_eq_setRow _ _ _ _ _ _ _ S3.out, setRow_heap _ _ _ _ _ _ S3.out]; rfl)
                have R4 := hid (dm_new (j := 3) (v := .int .i64 0) R3.out S3.out K0.out)
                have G4 := hid (gb_new (j := 3) (v := .int .i64 0) G3.out S3.out K1.out)
                generalize ((((v28.setCell ⟨rb, 0, none⟩ (.int .i64 (m : Int))).setCell ⟨rb, 1, none⟩ (.int .i64 0)).setCell ⟨rb, 2, none⟩ (.int .i64 0)).setCell ⟨rb, 3, none⟩ (.int .i64 0)) = U2 at *
                refine ⟨rfl, .agg #[.int .i64 (m : Int), .int .i64 0, .int .i64 0, .int .i64 0], results_cell_row Try.results34 _ U2 rb 68 #[.int .i64 (m : Int), .int .i64 0, .int .i64 0, .int .i64 0] (0, 0) _ rfl S4.out Try.underlying68 rfl infoIn, ?_⟩
                rw [HE3.out]
                exact ⟨_, _, rfl, ⟨⟨(m : Int), 0, 0, 0⟩, rfl⟩, HC0.out, R4.out, G4.out⟩
          | ok y0 =>
            obtain ⟨n29, k29⟩ := y0
            have HE := hid (show insR B (m : Int) true q1 q2 1 (n29 : Int) 0 0 k29 = res from he)
            clear he
            go_wp2_with fail
            refine HC.out.mono ?_
            rintro e u29 ⟨vv, rfl, rfl, h3, h4⟩
            have HR29 := hid h3
            have HX29 := hid (h4.at HX5.out K5.out)
            have HZ29 := hid (h4.at HZ5.out K6.out)
            have HG29 := hid (HG5.out.trans h4)
            clear h3 h4 HC
            have f5 : u29.frozen? ⟨xb, 1, none⟩ = false := frz_row HX29.out 1
            have c5 : u29.cell? ⟨xb, 1, none⟩ = some (.int .i64 0) := cell_of_row _ _ 1 _ _ _ HX29.out
            go_upto_region 16 with fail
            have HX30 := hid (show (u29.setCell ⟨xb, 1, none⟩ (.int .i64 (n29 : Int))).heap[xb]? = some (.cells #[.int .i64 (m : Int), .int .i64 (n29 : Int), .int .i64 0, .int .i64 0] 68 (0, 0)) from by rw [setCell_eq_setRow _ _ _ _ _ _ _ HX29.out, setRow_heap _ _ _ _ _ _ HX29.out]; rfl)
            have HZ30 := hid (show (u29.setCell ⟨xb, 1, none⟩ (.int .i64 (n29 : Int))).heap[rb]? = some (.cells #[.int .i64 0, .int .i64 0, .int .i64 0, .int .i64 0] 68 (0, 0)) from by rw [setCell_eq_setRow _ _ _ _ _ _ _ HX29.out, setRow_other _ _ _ _ K2.out]; exact HZ29.out)
            have HR30 := hid (dm_new (j := 1) (v := .int .i64 (n29 : Int)) HR29.out HX29.out K3.out)
            have HG30 := hid (gb_new (j := 1) (v := .int .i64 (n29 : Int)) HG29.out HX29.out K4.out)
            generalize (u29.setCell ⟨xb, 1, none⟩ (.int .i64 (n29 : Int))) = v30 at *
            clear f5 c5
            go_upto_region 16 with fail
            cases q1 with
            | false =>
              have HE := hid (show insR B (m : Int) true false q2 2 (n29 : Int) 0 0 k29 = res from HE.out)
              go_upto_region 18 with fail
              cases q2 with
              | false =>
                have HE := hid (show insR B (m : Int) true false false 3 (n29 : Int) 0 0 k29 = res from HE.out)
                have HE3 := hid (show res = .ok (⟨(m : Int), (n29 : Int), 0, 0⟩, k29) from HE.out.symm)
                have x0 : v30.cell? ⟨xb, 0, none⟩ = some (.int .i64 (m : Int)) := cell_of_row _ _ 0 _ _ _ HX30.out
                have x1 : v30.cell? ⟨xb, 1, none⟩ = some (.int .i64 (n29 : Int)) := cell_of_row _ _ 1 _ _ _ HX30.out
                have x2 : v30.cell? ⟨xb, 2, none⟩ = some (.int .i64 0) := cell_of_row _ _ 2 _ _ _ HX30.out
                have x3 : v30.cell? ⟨xb, 3, none⟩ = some (.int .i64 0) := cell_of_row _ _ 3 _ _ _ HX30.out
                have d0 : v30.cell? ⟨rb, 0, none⟩ = some (.int .i64 0) := cell_of_row _ _ 0 _ _ _ HZ30.out
                have f0 : v30.frozen? ⟨rb, 0, none⟩ = false := frz_row HZ30.out 0
                have d1 : v30.cell? ⟨rb, 1, none⟩ = some (.int .i64 0) := cell_of_row _ _ 1 _ _ _ HZ30.out
                have f1 : v30.frozen? ⟨rb, 1, none⟩ = false := frz_row HZ30.out 1
                have d2 : v30.cell? ⟨rb, 2, none⟩ = some (.int .i64 0) := cell_of_row _ _ 2 _ _ _ HZ30.out
                have f2 : v30.frozen? ⟨rb, 2, none⟩ = false := frz_row HZ30.out 2
                have d3 : v30.cell? ⟨rb, 3, none⟩ = some (.int .i64 0) := cell_of_row _ _ 3 _ _ _ HZ30.out
                have f3 : v30.frozen? ⟨rb, 3, none⟩ = false := frz_row HZ30.out 3
                go_wp2_with fail
                have S0 := HZ30
                have R0 := HR30
                have G0 := HG30
                have S1 := hid (show (v30.setCell ⟨rb, 0, none⟩ (.int .i64 (m : Int))).heap[rb]? = some (.cells #[.int .i64 (m : Int), .int .i64 0, .int .i64 0, .int .i64 0] 68 (0, 0)) from by rw [setCell_eq_setRow _ _ _ _ _ _ _ S0.out, setRow_heap _ _ _ _ _ _ S0.out]; rfl)
                have R1 := hid (dm_new (j := 0) (v := .int .i64 (m : Int)) R0.out S0.out K0.out)
                have G1 := hid (gb_new (j := 0) (v := .int .i64 (m : Int)) G0.out S0.out K1.out)
                have S2 := hid (show ((v30.setCell ⟨rb, 0, none⟩ (.int .i64 (m : Int))).setCell ⟨rb, 1, none⟩ (.int .i64 (n29 : Int))).heap[rb]? = some (.cells #[.int .i64 (m : Int), .int .i64 (n29 : Int), .int .i64 0, .int .i64 0] 68 (0, 0)) from by rw [setCell_eq_setRow _ _ _ _ _ _ _ S1.out, setRow_heap _ _ _ _ _ _ S1.out]; rfl)
                have R2 := hid (dm_new (j := 1) (v := .int .i64 (n29 : Int)) R1.out S1.out K0.out)
                have G2 := hid (gb_new (j := 1) (v := .int .i64 (n29 : Int)) G1.out S1.out K1.out)
                have S3 := hid (show (((v30.setCell ⟨rb, 0, none⟩ (.int .i64 (m : Int))).setCell ⟨rb, 1, none⟩ (.int .i64 (n29 : Int))).setCell ⟨rb, 2, none⟩ (.int .i64 0)).heap[rb]? = some (.cells #[.int .i64 (m : Int), .int .i64 (n29 : Int), .int .i64 0, .int .i64 0] 68 (0, 0)) from by rw [setCell_eq_setRow _ _ _ _ _ _ _ S2.out, setRow_heap _ _ _ _ _ _ S2.out]; rfl)
                have R3 := hid (dm_new (j := 2) (v := .int .i64 0) R2.out S2.out K0.out)
                have G3 := hid (gb_new (j := 2) (v := .int .i64 0) G2.out S2.out K1.out)
                have S4 := hid (show ((((v30.setCell ⟨rb, 0, none⟩ (.int .i64 (m : Int))).setCell ⟨rb, 1, none⟩ (.int .i64 (n29 : Int))).setCell ⟨rb, 2, none⟩ (.int .i64 0)).setCell ⟨rb, 3, none⟩ (.int .i64 0)).heap[rb]? = some (.cells #[.int .i64 (m : Int), .int .i64 (n29 : Int), .int .i64 0, .int .i64 0] 68 (0, 0)) from by rw [setCell_eq_setRow _ _ _ _ _ _ _ S3.out, setRow_heap _ _ _ _ _ _ S3.out]; rfl)
                have R4 := hid (dm_new (j := 3) (v := .int .i64 0) R3.out S3.out K0.out)
                have G4 := hid (gb_new (j := 3) (v := .int .i64 0) G3.out S3.out K1.out)
                generalize ((((v30.setCell ⟨rb, 0, none⟩ (.int .i64 (m : Int))).setCell ⟨rb, 1, none⟩ (.int .i64 (n29 : Int))).setCell ⟨rb, 2, none⟩ (.int .i64 0)).setCell ⟨rb, 3, none⟩ (.int .i64 0)) = U2 at *
                refine ⟨rfl, .agg #[.int .i64 (m : Int), .int .i64 (n29 : Int), .int .i64 0, .int .i64 0], results_cell_row Try.results34 _ U2 rb 68 #[.int .i64 (m : Int), .int .i64 (n29 : Int), .int .i64 0, .int .i64 0] (0, 0) _ rfl S4.out Try.underlying68 rfl infoIn, ?_⟩
                rw [HE3.out]
                exact ⟨_, rfl, rfl, R4.out, G4.out⟩
              | true =>
                have HC := hid (dcnt_any HR30.out 0 65535 (by decide) (by decide))
                obtain ⟨r0, hr0⟩ : ∃ r0, r0 = cntD B k29 0 65535 9 0 k29 0 := ⟨_, rfl⟩
                have hq : optP true B k29 = dbnd r0 (fun n k1 => .ok ((n : Int), k1)) := by rw [hr0]; rfl
                rw [← hr0] at HC
                have he : dbnd (optP true B k29) (fun w k1 => insR B (m : Int) true false true 3 (n29 : Int) 0 w k1) = res := HE.out
                rw [hq] at he
                clear hr0 hq
                cases r0 with
                | error e0 =>
                  obtain ⟨c0, p0⟩ := e0
                  have HE3 := hid (show res = .error (c0, p0) from he.symm)
                  clear he
                  go_wp2_with fail
                  refine HC.out.mono ?_
                  rintro e u31 ⟨vv, k5, rfl, rfl, h0, h3, h4⟩
                  have HC0 := hid h0
                  have HR31 := hid h3
                  have HX31 := hid (h4.at HX30.out K5.out)
                  have HZ31 := hid (h4.at HZ30.out K6.out)
                  have HG31 := hid (HG30.out.trans h4)
                  clear h0 h3 h4 HC
                  have f5 : u31.frozen? ⟨xb, 3, none⟩ = false := frz_row HX31.out 3
                  have c5 : u31.cell? ⟨xb, 3, none⟩ = some (.int .i64 0) := cell_of_row _ _ 3 _ _ _ HX31.out
                  go_upto_region 20 with fail
                  have HX32 := hid (show (u31.setCell ⟨xb, 3, none⟩ (.int .i64 0)).heap[xb]? = some (.cells #[.int .i64 (m : Int), .int .i64 (n29 : Int), .int .i64 0, .int .i64 0] 68 (0, 0)) from by rw [setCell_eq_setRow _ _ _ _ _ _ _ HX31.out, setRow_heap _ _ _ _ _ _ HX31.out]; rfl)
                  have HZ32 := hid (show (u31.setCell ⟨xb, 3, none⟩ (.int .i64 0)).heap[rb]? = some (.cells #[.int .i64 0, .int .i64 0, .int .i64 0, .int .i64 0] 68 (0, 0)) from by rw [setCell_eq_setRow _ _ _ _ _ _ _ HX31.out, setRow_other _ _ _ _ K2.out]; exact HZ31.out)
                  have HR32 := hid (dm_new (j := 3) (v := .int .i64 0) HR31.out HX31.out K3.out)
                  have HG32 := hid (gb_new (j := 3) (v := .int .i64 0) HG31.out HX31.out K4.out)
                  generalize (u31.setCell ⟨xb, 3, none⟩ (.int .i64 0)) = v32 at *
                  clear f5 c5
                  have x0 : v32.cell? ⟨xb, 0, none⟩ = some (.int .i64 (m : Int)) := cell_of_row _ _ 0 _ _ _ HX32.out
                  have x1 : v32.cell? ⟨xb, 1, none⟩ = some (.int .i64 (n29 : Int)) := cell_of_row _ _ 1 _ _ _ HX32.out
                  have x2 : v32.cell? ⟨xb, 2, none⟩ = some (.int .i64 0) := cell_of_row _ _ 2 _ _ _ HX32.out
                  have x3 : v32.cell? ⟨xb, 3, none⟩ = some (.int .i64 0) := cell_of_row _ _ 3 _ _ _ HX32.out
                  have d0 : v32.cell? ⟨rb, 0, none⟩ = some (.int .i64 0) := cell_of_row _ _ 0 _ _ _ HZ32.out
                  have f0 : v32.frozen? ⟨rb, 0, none⟩ = false := frz_row HZ32.out 0
                  have d1 : v32.cell? ⟨rb, 1, none⟩ = some (.int .i64 0) := cell_of_row _ _ 1 _ _ _ HZ32.out
                  have f1 : v32.frozen? ⟨rb, 1, none⟩ = false := frz_row HZ32.out 1
                  have d2 : v32.cell? ⟨rb, 2, none⟩ = some (.int .i64 0) := cell_of_row _ _ 2 _ _ _ HZ32.out
                  have f2 : v32.frozen? ⟨rb, 2, none⟩ = false := frz_row HZ32.out 2
                  have d3 : v32.cell? ⟨rb, 3, none⟩ = some (.int .i64 0) := cell_of_row _ _ 3 _ _ _ HZ32.out
                  have f3 : v32.frozen? ⟨rb, 3, none⟩ = false := frz_row HZ32.out 3
                  go_wp2_with fail
                  have S0 := HZ32
                  have R0 := HR32
                  have G0 := HG32
                  have S1 := hid (show (v32.setCell ⟨rb, 0, none⟩ (.int .i64 (m : Int))).heap[rb]? = some (.cells #[.int .i64 (m : Int), .int .i64 0, .int .i64 0, .int .i64 0] 68 (0, 0)) from by rw [setCell_eq_setRow _ _ _ _ _ _ _ S0.out, setRow_heap _ _ _ _ _ _ S0.out]; rfl)
                  have R1 := hid (dm_new (j := 0) (v := .int .i64 (m : Int)) R0.out S0.out K0.out)
                  have G1 := hid (gb_new (j := 0) (v := .int .i64 (m : Int)) G0.out S0.out K1.out)
                  have S2 := hid (show ((v32.setCell ⟨rb, 0, none⟩ (.int .i64 (m : Int))).setCell ⟨rb, 1, none⟩ (.int .i64 (n29 : Int))).heap[rb]? = some (.cells #[.int .i64 (m : Int), .int .i64 (n29 : Int), .int .i64 0, .int .i64 0] 68 (0, 0)) from by rw [setCell_eq_setRow _ _ _ _ _ _ _ S1.out, setRow_heap _ _ _ _ _ _ S1.out]; rfl)
                  have R2 := hid (dm_new (j := 1) (v := .int .i64 (n29 : Int)) R1.out S1.out K0.out)
                  have G2 := hid (gb_new (j := 1) (v := .int .i64 (n29 : Int)) G1.out S1.out K1.out)
                  have S3 := hid (show (((v32.setCell ⟨rb, 0, none⟩ (.int .i64 (m : Int))).setCell ⟨rb, 1, none⟩ (.int .i64 (n29 : Int))).setCell ⟨rb, 2, none⟩ (.int .i64 0)).heap[rb]? = some (.cells #[.int .i64 (m : Int), .int .i64 (n29 : Int), .int .i64 0, .int .i64 0] 68 (0, 0)) from by rw [setCell_eq_setRow _ _ _ _ _ _ _ S2.out, setRow_heap _ _ _ _ _ _ S2.out]; rfl)
                  have R3 := hid (dm_new (j := 2) (v := .int .i64 0) R2.out S2.out K0.out)
                  have G3 := hid (gb_new (j := 2) (v := .int .i64 0) G2.out S2.out K1.out)
                  have S4 := hid (show ((((v32.setCell ⟨rb, 0, none⟩ (.int .i64 (m : Int))).setCell ⟨rb, 1, none⟩ (.int .i64 (n29 : Int))).setCell ⟨rb, 2, none⟩ (.int .i64 0)).setCell ⟨rb, 3, none⟩ (.int .i64 0)).heap[rb]? = some (.cells #[.int .i64 (m : Int), .int .i64 (n29 : Int), .int .i64 0, .int .i64 0] 68 (0, 0)) from by rw [setCell_eq_setRow _ _ _ _ _ _ _ S3.out, setRow_heap _ _ _ _ _ _ S3.out]; rfl)
                  have R4 := hid (dm_new (j := 3) (v := .int .i64 0) R3.out S3.out K0.out)
                  have G4 := hid (gb_new (j := 3) (v := .int .i64 0) G3.out S3.out K1.out)
                  generalize ((((v32.setCell ⟨rb, 0, none⟩ (.int .i64 (m : Int))).setCell ⟨rb, 1, none⟩ (.int .i64 (n29 : Int))).setCell ⟨rb, 2, none⟩ (.int .i64 0)).setCell ⟨rb, 3, none⟩ (.int .i64 0)) = U2 at *
                  refine ⟨rfl, .agg #[.int .i64 (m : Int), .int .i64 (n29 : Int), .int .i64 0, .int .i64 0], results_cell_row Try.results34 _ U2 rb 68 #[.int .i64 (m : Int), .int .i64 (n29 : Int), .int .i64 0, .int .i64 0] (0, 0) _ rfl S4.out Try.underlying68 rfl infoIn, ?_⟩
                  rw [HE3.out]
                  exact ⟨_, _, rfl, ⟨⟨(m : Int), (n29 : Int), 0, 0⟩, rfl⟩, HC0.out, R4.out, G4.out⟩
                | ok y0 =>
                  obtain ⟨n33, k33⟩ := y0
                  have HE := hid (show insR B (m : Int) true false true 3 (n29 : Int) 0 (n33 : Int) k33 = res from he)
                  clear he
                  go_wp2_with fail
                  refine HC.out.mono ?_
                  rintro e u33 ⟨vv, rfl, rfl, h3, h4⟩
                  have HR33 := hid h3
                  have HX33 := hid (h4.at HX30.out K5.out)
                  have HZ33 := hid (h4.at HZ30.out K6.out)
                  have HG33 := hid (HG30.out.trans h4)
                  clear h3 h4 HC
                  have f5 : u33.frozen? ⟨xb, 3, none⟩ = false := frz_row HX33.out 3
                  have c5 : u33.cell? ⟨xb, 3, none⟩ = some (.int .i64 0) := cell_of_row _ _ 3 _ _ _ HX33.out
                  go_upto_region 20 with fail
                  have HX34 := hid (show (u33.setCell ⟨xb, 3, none⟩ (.int .i64 (n33 : Int))).heap[xb]? = some (.cells #[.int .i64 (m : Int), .int .i64 (n29 : Int), .int .i64 0, .int .i64 (n33 : Int)] 68 (0, 0)) from by rw [setCell_eq_setRow _ _ _ _ _ _ _ HX33.out, setRow_heap _ _ _ _ _ _ HX33.out]; rfl)
                  have HZ34 := hid (show (u33.setCell ⟨xb, 3, none⟩ (.int .i64 (n33 : Int))).heap[rb]? = some (.cells #[.int .i64 0, .int .i64 0, .int .i64 0, .int .i64 0] 68 (0, 0)) from by rw [setCell_eq_setRow _ _ _ _ _ _ _ HX33.out, setRow_other _ _ _ _ K2.out]; exact HZ33.out)
                  have HR34 := hid (dm_new (j := 3) (v := .int .i64 (n33 : Int)) HR33.out HX33.out K3.out)
                  have HG34 := hid (gb_new (j := 3) (v := .int .i64 (n33 : Int)) HG33.out HX33.out K4.out)
                  generalize (u33.setCell ⟨xb, 3, none⟩ (.int .i64 (n33 : Int))) = v34 at *
                  clear f5 c5
                  have HE3 := hid (show res = .ok (⟨(m : Int), (n29 : Int), 0, (n33 : Int)⟩, k33) from HE.out.symm)
                  have x0 : v34.cell? ⟨xb, 0, none⟩ = some (.int .i64 (m : Int)) := cell_of_row _ _ 0 _ _ _ HX34.out
                  have x1 : v34.cell? ⟨xb, 1, none⟩ = some (.int .i64 (n29 : Int)) := cell_of_row _ _ 1 _ _ _ HX34.out
                  have x2 : v34.cell? ⟨xb, 2, none⟩ = some (.int .i64 0) := cell_of_row _ _ 2 _ _ _ HX34.out
                  have x3 : v34.cell? ⟨xb, 3, none⟩ = some (.int .i64 (n33 : Int)) := cell_of_row _ _ 3 _ _ _ HX34.out
                  have d0 : v34.cell? ⟨rb, 0, none⟩ = some (.int .i64 0) := cell_of_row _ _ 0 _ _ _ HZ34.out
                  have f0 : v34.frozen? ⟨rb, 0, none⟩ = false := frz_row HZ34.out 0
                  have d1 : v34.cell? ⟨rb, 1, none⟩ = some (.int .i64 0) := cell_of_row _ _ 1 _ _ _ HZ34.out
                  have f1 : v34.frozen? ⟨rb, 1, none⟩ = false := frz_row HZ34.out 1
                  have d2 : v34.cell? ⟨rb, 2, none⟩ = some (.int .i64 0) := cell_of_row _ _ 2 _ _ _ HZ34.out
                  have f2 : v34.frozen? ⟨rb, 2, none⟩ = false := frz_row HZ34.out 2
                  have d3 : v34.cell? ⟨rb, 3, none⟩ = some (.int .i64 0) := cell_of_row _ _ 3 _ _ _ HZ34.out
                  have f3 : v34.frozen? ⟨rb, 3, none⟩ = false := frz_row HZ34.out 3
                  go_wp2_with fail
                  have S0 := HZ34
                  have R0 := HR34
                  have G0 := HG34
                  have S1 := hid (show (v34.setCell ⟨rb, 0, none⟩ (.int .i64 (m : Int))).heap[rb]? = some (.cells #[.int .i64 (m : Int), .int .i64 0, .int .i64 0, .int .i64 0] 68 (0, 0)) from by rw [setCell_eq_setRow _ _ _ _ _ _ _ S0.out, setRow_heap _ _ _ _ _ _ S0.out]; rfl)
                  have R1 := hid (dm_new (j := 0) (v := .int .i64 (m : Int)) R0.out S0.out K0.out)
                  have G1 := hid (gb_new (j := 0) (v := .int .i64 (m : Int)) G0.out S0.out K1.out)
                  have S2 := hid (show ((v34.setCell ⟨rb, 0, none⟩ (.int .i64 (m : Int))).setCell ⟨rb, 1, none⟩ (.int .i64 (n29 : Int))).heap[rb]? = some (.cells #[.int .i64 (m : Int), .int .i64 (n29 : Int), .int .i64 0, .int .i64 0] 68 (0, 0)) from by rw [setCell_eq_setRow _ _ _ _ _ _ _ S1.out, setRow_heap _ _ _ _ _ _ S1.out]; rfl)
                  have R2 := hid (dm_new (j := 1) (v := .int .i64 (n29 : Int)) R1.out S1.out K0.out)
                  have G2 := hid (gb_new (j := 1) (v := .int .i64 (n29 : Int)) G1.out S1.out K1.out)
                  have S3 := hid (show (((v34.setCell ⟨rb, 0, none⟩ (.int .i64 (m : Int))).setCell ⟨rb, 1, none⟩ (.int .i64 (n29 : Int))).setCell ⟨rb, 2, none⟩ (.int .i64 0)).heap[rb]? = some (.cells #[.int .i64 (m : Int), .int .i64 (n29 : Int), .int .i64 0, .int .i64 0] 68 (0, 0)) from by rw [setCell_eq_setRow _ _ _ _ _ _ _ S2.out, setRow_heap _ _ _ _ _ _ S2.out]; rfl)
                  have R3 := hid (dm_new (j := 2) (v := .int .i64 0) R2.out S2.out K0.out)
                  have G3 := hid (gb_new (j := 2) (v := .int .i64 0) G2.out S2.out K1.out)
                  have S4 := hid (show ((((v34.setCell ⟨rb, 0, none⟩ (.int .i64 (m : Int))).setCell ⟨rb, 1, none⟩ (.int .i64 (n29 : Int))).setCell ⟨rb, 2, none⟩ (.int .i64 0)).setCell ⟨rb, 3, none⟩ (.int .i64 (n33 : Int))).heap[rb]? = some (.cells #[.int .i64 (m : Int), .int .i64 (n29 : Int), .int .i64 0, .int .i64 (n33 : Int)] 68 (0, 0)) from by rw [setCell_eq_setRow _ _ _ _ _ _ _ S3.out, setRow_heap _ _ _ _ _ _ S3.out]; rfl)
                  have R4 := hid (dm_new (j := 3) (v := .int .i64 (n33 : Int)) R3.out S3.out K0.out)
                  have G4 := hid (gb_new (j := 3) (v := .int .i64 (n33 : Int)) G3.out S3.out K1.out)
                  generalize ((((v34.setCell ⟨rb, 0, none⟩ (.int .i64 (m : Int))).setCell ⟨rb, 1, none⟩ (.int .i64 (n29 : Int))).setCell ⟨rb, 2, none⟩ (.int .i64 0)).setCell ⟨rb, 3, none⟩ (.int .i64 (n33 : Int))) = U2 at *
                  refine ⟨rfl, .agg #[.int .i64 (m : Int), .int .i64 (n29 : Int), .int .i64 0, .int .i64 (n33 : Int)], results_cell_row Try.results34 _ U2 rb 68 #[.int .i64 (m : Int), .int .i64 (n29 : Int), .int .i64 0, .int .i64 (n33 : Int)] (0, 0) _ rfl S4.out Try.underlying68 rfl infoIn, ?_⟩
                  rw [HE3.out]
                  exact ⟨_, rfl, rfl, R4.out, G4.out⟩
            | true =>
              have HC := hid (dcnt_any HR30.out 0 65535 (by decide) (by decide))
              obtain ⟨r0, hr0⟩ : ∃ r0, r0 = cntD B k29 0 65535 9 0 k29 0 := ⟨_, rfl⟩
              have hq : optP true B k29 = dbnd r0 (fun n k1 => .ok ((n : Int), k1)) := by rw [hr0]; rfl
              rw [← hr0] at HC
              have he : dbnd (optP true B k29) (fun w k1 => insR B (m : Int) true true q2 2 (n29 : Int) w 0 k1) = res := HE.out
              rw [hq] at he
              clear hr0 hq
              cases r0 with
              | error e0 =>
                obtain ⟨c0, p0⟩ := e0
                have HE3 := hid (show res = .error (c0, p0) from he.symm)
                clear he
                go_wp2_with fail
                refine HC.out.mono ?_
                rintro e u35 ⟨vv, k5, rfl, rfl, h0, h3, h4⟩
                have HC0 := hid h0
                have HR35 := hid h3
                have HX35 := hid (h4.at HX30.out K5.out)
                have HZ35 := hid (h4.at HZ30.out K6.out)
                have HG35 := hid (HG30.out.trans h4)
                clear h0 h3 h4 HC
                have f5 : u35.frozen? ⟨xb, 2, none⟩ = false := frz_row HX35.out 2
                have c5 : u35.cell? ⟨xb, 2, none⟩ = some (.int .i64 0) := cell_of_row _ _ 2 _ _ _ HX35.out
                go_upto_region 18 with fail
                have HX36 := hid (show (u35.setCell ⟨xb, 2, none⟩ (.int .i64 0)).heap[xb]? = some (.cells #[.int .i64 (m : Int), .int .i64 (n29 : Int), .int .i64 0, .int .i64 0] 68 (0, 0)) from by rw [setCell_eq_setRow _ _ _ _ _ _ _ HX35.out, setRow_heap _ _ _ _ _ _ HX35.out]; rfl)
                have HZ36 := hid (show (u35.setCell ⟨xb, 2, none⟩ (.int .i64 0)).heap[rb]? = some (.cells #[.int .i64 0, .int .i64 0, .int .i64 0, .int .i64 0] 68 (0, 0)) from by rw [setCell_eq_setRow _ _ _ _ _ _ _ HX35.out, setRow_other _ _ _ _ K2.out]; exact HZ35.out)
                have HR36 := hid (dm_new (j := 2) (v := .int .i64 0) HR35.out HX35.out K3.out)
                have HG36 := hid (gb_new (j := 2) (v := .int .i64 0) HG35.out HX35.out K4.out)
                generalize (u35.setCell ⟨xb, 2, none⟩ (.int .i64 0)) = v36 at *
                clear f5 c5
                go_upto_region 18 with fail
                cases q2 with
                | false =>
                  have x0 : v36.cell? ⟨xb, 0, none⟩ = some (.int .i64 (m : Int)) := cell_of_row _ _ 0 _ _ _ HX36.out
                  have x1 : v36.cell? ⟨xb, 1, none⟩ = some (.int .i64 (n29 : Int)) := cell_of_row _ _ 1 _ _ _ HX36.out
                  have x2 : v36.cell? ⟨xb, 2, none⟩ = some (.int .i64 0) := cell_of_row _ _ 2 _ _ _ HX36.out
                  have x3 : v36.cell? ⟨xb, 3, none⟩ = some (.int .i64 0) := cell_of_row _ _ 3 _ _ _ HX36.out
                  have d0 : v36.cell? ⟨rb, 0, none⟩ = some (.int .i64 0) := cell_of_row _ _ 0 _ _ _ HZ36.out
                  have f0 : v36.frozen? ⟨rb, 0, none⟩ = false := frz_row HZ36.out 0
                  have d1 : v36.cell? ⟨rb, 1, none⟩ = some (.int .i64 0) := cell_of_row _ _ 1 _ _ _ HZ36.out
                  have f1 : v36.frozen? ⟨rb, 1, none⟩ = false := frz_row HZ36.out 1
                  have d2 : v36.cell? ⟨rb, 2, none⟩ = some (.int .i64 0) := cell_of_row _ _ 2 _ _ _ HZ36.out
                  have f2 : v36.frozen? ⟨rb, 2, none⟩ = false := frz_row HZ36.out 2
                  have d3 : v36.cell? ⟨rb, 3, none⟩ = some (.int .i64 0) := cell_of_row _ _ 3 _ _ _ HZ36.out
                  have f3 : v36.frozen? ⟨rb, 3, none⟩ = false := frz_row HZ36.out 3
                  go_wp2_with fail
                  have S0 := HZ36
                  have R0 := HR36
                  have G0 := HG36
                  have S1 := hid (show (v36.setCell ⟨rb, 0, none⟩ (.int .i64 (m : Int))).heap[rb]? = some (.cells #[.int .i64 (m : Int), .int .i64 0, .int .i64 0, .int .i64 0] 68 (0, 0)) from by rw [setCell_eq_setRow _ _ _ _ _ _ _ S0.out, setRow_heap _ _ _ _ _ _ S0.out]; rfl)
                  have R1 := hid (dm_new (j := 0) (v := .int .i64 (m : Int)) R0.out S0.out K0.out)
                  have G1 := hid (gb_new (j := 0) (v := .int .i64 (m : Int)) G0.out S0.out K1.out)
                  have S2 := hid (show ((v36.setCell ⟨rb, 0, none⟩ (.int .i64 (m : Int))).setCell ⟨rb, 1, none⟩ (.int .i64 (n29 : Int))).heap[rb]? = some (.cells #[.int .i64 (m : Int), .int .i64 (n29 : Int), .int .i64 0, .int .i64 0] 68 (0, 0)) from by rw [setCell_eq_setRow _ _ _ _ _ _ _ S1.out, setRow_heap _ _ _ _ _ _ S1.out]; rfl)
                  have R2 := hid (dm_new (j := 1) (v := .int .i64 (n29 : Int)) R1.out S1.out K0.out)
                  have G2 := hid (gb_new (j := 1) (v := .int .i64 (n29 : Int)) G1.out S1.out K1.out)
                  have S3 := hid (show (((v36.setCell ⟨rb, 0, none⟩ (.int .i64 (m : Int))).setCell ⟨rb, 1, none⟩ (.int .i64 (n29 : Int))).setCell ⟨rb, 2, none⟩ (.int .i64 0)).heap[rb]? = some (.cells #[.int .i64 (m : Int), .int .i64 (n29 : Int), .int .i64 0, .int .i64 0] 68 (0, 0)) from by rw [setCell_eq_setRow _ _ _ _ _ _ _ S2.out, setRow_heap _ _ _ _ _ _ S2.out]; rfl)
                  have R3 := hid (dm_new (j := 2) (v := .int .i64 0) R2.out S2.out K0.out)
                  have G3 := hid (gb_new (j := 2) (v := .int .i64 0) G2.out S2.out K1.out)
                  have S4 := hid (show ((((v36.setCell ⟨rb, 0, none⟩ (.int .i64 (m : Int))).setCell ⟨rb, 1, none⟩ (.int .i64 (n29 : Int))).setCell ⟨rb, 2, none⟩ (.int .i64 0)).setCell ⟨rb, 3, none⟩ (.int .i64 0)).heap[rb]? = some (.cells #[.int .i64 (m : Int), .int .i64 (n29 : Int), .int .i64 0, .int .i64 0] 68 (0, 0)) from by rw [setCell_eq_setRow _ _ _ _ _ _ _ S3.out, setRow_heap _ _ _ _ _ _ S3.out]; rfl)
                  have R4 := hid (dm_new (j := 3) (v := .int .i64 0) R3.out S3.out K0.out)
                  have G4 := hid (gb_new (j := 3) (v := .int .i64 0) G3.out S3.out K1.out)
                  generalize ((((v36.setCell ⟨rb, 0, none⟩ (.int .i64 (m : Int))).setCell ⟨rb, 1, none⟩ (.int .i64 (n29 : Int))).setCell ⟨rb, 2, none⟩ (.int .i64 0)).setCell ⟨rb, 3, none⟩ (.int .i64 0)) = U2 at *
                  refine ⟨rfl, .agg #[.int .i64 (m : Int), .int .i64 (n29 : Int), .int .i64 0, .int .i64 0], results_cell_row Try.results34 _ U2 rb 68 #[.int .i64 (m : Int), .int .i64 (n29 : Int), .int .i64 0, .int .i64 0] (0, 0) _ rfl S4.out Try.underlying68 rfl infoIn, ?_⟩
                  rw [HE3.out]
                  exact ⟨_, _, rfl, ⟨⟨(m : Int), (n29 : Int), 0, 0⟩, rfl⟩, HC0.out, R4.out, G4.out⟩
                | true =>
                  have HC := hid (dcnt_bad HR36.out HC0.out 0 65535)
                  go_wp2_with fail
                  refine HC.out.mono ?_
                  rintro e u37 ⟨rfl, hw⟩
                  have hw2 := hw.symm
                  subst hw2
                  clear hw HC
                  have f5 : v36.frozen? ⟨xb, 3, none⟩ = false := frz_row HX36.out 3
                  have c5 : v36.cell? ⟨xb, 3, none⟩ = some (.int .i64 0) := cell_of_row _ _ 3 _ _ _ HX36.out
                  go_upto_region 20 with fail
                  have HX37 := hid (show (v36.setCell ⟨xb, 3, none⟩ (.int .i64 0)).heap[xb]? = some (.cells #[.int .i64 (m : Int), .int .i64 (n29 : Int), .int .i64 0, .int .i64 0] 68 (0, 0)) from by rw [setCell_eq_setRow _ _ _ _ _ _ _ HX36.out, setRow_heap _ _ _ _ _ _ HX36.out]; rfl)
                  have HZ37 := hid (show (v36.setCell ⟨xb, 3, none⟩ (.int .i64 0)).heap[rb]? = some (.cells #[.int .i64 0, .int .i64 0, .int .i64 0, .int .i64 0] 68 (0, 0)) from by rw [setCell_eq_setRow _ _ _ _ _ _ _ HX36.out, setRow_other _ _ _ _ K2.out]; exact HZ36.out)
                  have HR37 := hid (dm_new (j := 3) (v := .int .i64 0) HR36.out HX36.out K3.out)
                  have HG37 := hid (gb_new (j := 3) (v := .int .i64 0) HG36.out HX36.out K4.out)
                  generalize (v36.setCell ⟨xb, 3, none⟩ (.int .i64 0)) = v37 at *
                  clear f5 c5
                  have x0 : v37.cell? ⟨xb, 0, none⟩ = some (.int .i64 (m : Int)) := cell_of_row _ _ 0 _ _ _ HX37.out
                  have x1 : v37.cell? ⟨xb, 1, none⟩ = some (.int .i64 (n29 : Int)) := cell_of_row _ _ 1 _ _ _ HX37.out
                  have x2 : v37.cell? ⟨xb, 2, none⟩ = some (.int .i64 0) := cell_of_row _ _ 2 _ _ _ HX37.out
                  have x3 : v37.cell? ⟨xb, 3, none⟩ = some (.int .i64 0) := cell_of_row _ _ 3 _ _ _ HX37.out
                  have d0 : v37.cell? ⟨rb, 0, none⟩ = some (.int .i64 0) := cell_of_row _ _ 0 _ _ _ HZ37.out
                  have f0 : v37.frozen? ⟨rb, 0, none⟩ = false := frz_row HZ37.out 0
                  have d1 : v37.cell? ⟨rb, 1, none⟩ = some (.int .i64 0) := cell_of_row _ _ 1 _ _ _ HZ37.out
                  have f1 : v37.frozen? ⟨rb, 1, none⟩ = false := frz_row HZ37.out 1
                  have d2 : v37.cell? ⟨rb, 2, none⟩ = some (.int .i64 0) := cell_of_row _ _ 2 _ _ _ HZ37.out
                  have f2 : v37.frozen? ⟨rb, 2, none⟩ = false := frz_row HZ37.out 2
                  have d3 : v37.cell? ⟨rb, 3, none⟩ = some (.int .i64 0) := cell_of_row _ _ 3 _ _ _ HZ37.out
                  have f3 : v37.frozen? ⟨rb, 3, none⟩ = false := frz_row HZ37.out 3
                  go_wp2_with fail
                  have S0 := HZ37
                  have R0 := HR37
                  have G0 := HG37
                  have S1 := hid (show (v37.setCell ⟨rb, 0, none⟩ (.int .i64 (m : Int))).heap[rb]? = some (.cells #[.int .i64 (m : Int), .int .i64 0, .int .i64 0, .int .i64 0] 68 (0, 0)) from by rw [setCell_eq_setRow _ _ _ _ _ _ _ S0.out, setRow_heap _ _ _ _ _ _ S0.out]; rfl)
                  have R1 := hid (dm_new (j := 0) (v := .int .i64 (m : Int)) R0.out S0.out K0.out)
                  have G1 := hid (gb_new (j := 0) (v := .int .i64 (m : Int)) G0.out S0.out K1.out)
                  have S2 := hid (show ((v37.setCell ⟨rb, 0, none⟩ (.int .i64 (m : Int))).setCell ⟨rb, 1, none⟩ (.int .i64 (n29 : Int))).heap[rb]? = some (.cells #[.int .i64 (m : Int), .int .i64 (n29 : Int), .int .i64 0, .int .i64 0] 68 (0, 0)) from by rw [setCell_eq_setRow _ _ _ _ _ _ _ S1.out, setRow_heap _ _ _ _ _ _ S1.out]; rfl)
                  have R2 := hid (dm_new (j := 1) (v := .int .i64 (n29 : Int)) R1.out S1.out K0.out)
                  have G2 := hid (gb_new (j := 1) (v := .int .i64 (n29 : Int)) G1.out S1.out K1.out)
                  have S3 := hid (show (((v37.setCell ⟨rb, 0, none⟩ (.int .i64 (m : Int))).setCell ⟨rb, 1, none⟩ (.int .i64 (n29 : Int))).setCell ⟨rb, 2, none⟩ (.int .i64 0)).heap[rb]? = some (.cells #[.int .i64 (m : Int), .int .i64 (n29 : Int), .int .i64 0, .int .i64 0] 68 (0, 0)) from by rw [setCell_eq_setRow _ _ _ _ _ _ _ S2.out, setRow_heap _ _ _ _ _ _ S2.out]; rfl)
                  have R3 := hid (dm_new (j := 2) (v := .int .i64 0) R2.out S2.out K0.out)
                  have G3 := hid (gb_new (j := 2) (v := .int .i64 0) G2.out S2.out K1.out)
                  have S4 := hid (show ((((v37.setCell ⟨rb, 0, none⟩ (.int .i64 (m : Int))).setCell ⟨rb, 1, none⟩ (.int .i64 (n29 : Int))).setCell ⟨rb, 2, none⟩ (.int .i64 0)).setCell ⟨rb, 3, none⟩ (.int .i64 0)).heap[rb]? = some (.cells #[.int .i64 (m : Int), .int .i64 (n29 : Int), .int .i64 0, .int .i64 0] 68 (0, 0)) from by rw [setCell_eq_setRow _ _ _ _ _ _ _ S3.out, setRow_heap _ _ _ _ _ _ S3.out]; rfl)
                  have R4 := hid (dm_new (j := 3) (v := .int .i64 0) R3.out S3.out K0.out)
                  have G4 := hid (gb_new (j := 3) (v := .int .i64 0) G3.out S3.out K1.out)
                  generalize ((((v37.setCell ⟨rb, 0, none⟩ (.int .i64 (m : Int))).setCell ⟨rb, 1, none⟩ (.int .i64 (n29 : Int))).setCell ⟨rb, 2, none⟩ (.int .i64 0)).setCell ⟨rb, 3, none⟩ (.int .i64 0)) = U2 at *
                  refine ⟨rfl, .agg #[.int .i64 (m : Int), .int .i64 (n29 : Int), .int .i64 0, .int .i64 0], results_cell_row Try.results34 _ U2 rb 68 #[.int .i64 (m : Int), .int .i64 (n29 : Int), .int .i64 0, .int .i64 0] (0, 0) _ rfl S4.out Try.underlying68 rfl infoIn, ?_⟩
                  rw [HE3.out]
                  exact ⟨_, _, rfl, ⟨⟨(m : Int), (n29 : Int), 0, 0⟩, rfl⟩, HC0.out, R4.out, G4.out⟩
              | ok y0 =>
                obtain ⟨n38, k38⟩ := y0
                have HE := hid (show insR B (m : Int) true true q2 2 (n29 : Int) (n38 : Int) 0 k38 = res from he)
                clear he
                go_wp2_with fail
                refine HC.out.mono ?_
                rintro e u38 ⟨vv, rfl, rfl, h3, h4⟩
                have HR38 := hid h3
                have HX38 := hid (h4.at HX30.out K5.out)
                have HZ38 := hid (h4.at HZ30.out K6.out)
                have HG38 := hid (HG30.out.trans h4)
                clear h3 h4 HC
                have f5 : u38.frozen? ⟨xb, 2, none⟩ = false := frz_row HX38.out 2
                have c5 : u38.cell? ⟨xb, 2, none⟩ = some (.int .i64 0) := cell_of_row _ _ 2 _ _ _ HX38.out
                go_upto_region 18 with fail
                have HX39 := hid (show (u38.setCell ⟨xb, 2, none⟩ (.int .i64 (n38 : Int))).heap[xb]? = some (.cells #[.int .i64 (m : Int), .int .i64 (n29 : Int), .int .i64 (n38 : Int), .int .i64 0] 68 (0, 0)) from by rw [setCell_eq_setRow _ _ _ _ _ _ _ HX38.out, setRow_heap _ _ _ _ _ _ HX38.out]; rfl)
                have HZ39 := hid (show (u38.setCell ⟨xb, 2, none⟩ (.int .i64 (n38 : Int))).heap[rb]? = some (.cells #[.int .i64 0, .int .i64 0, .int .i64 0, .int .i64 0] 68 (0, 0)) from by rw [setCell_eq_setRow _ _ _ _ _ _ _ HX38.out, setRow_other _ _ _ _ K2.out]; exact HZ38.out)
                have HR39 := hid (dm_new (j := 2) (v := .int .i64 (n38 : Int)) HR38.out HX38.out K3.out)
                have HG39 := hid (gb_new (j := 2) (v := .int .i64 (n38 : Int)) HG38.out HX38.out K4.out)
                generalize (u38.setCell ⟨xb, 2, none⟩ (.int .i64 (n38 : Int))) = v39 at *
                clear f5 c5
                go_upto_region 18 with fail
                cases q2 with
                | false =>
                  have HE := hid (show insR B (m : Int) true true false 3 (n29 : Int) (n38 : Int) 0 k38 = res from HE.out)
                  have HE3 := hid (show res = .ok (⟨(m : Int), (n29 : Int), (n38 : Int), 0⟩, k38) from HE.out.symm)
                  have x0 : v39.cell? ⟨xb, 0, none⟩ = some (.int .i64 (m : Int)) := cell_of_row _ _ 0 _ _ _ HX39.out
                  have x1 : v39.cell? ⟨xb, 1, none⟩ = some (.int .i64 (n29 : Int)) := cell_of_row _ _ 1 _ _ _ HX39.out
                  have x2 : v39.cell? ⟨xb, 2, none⟩ = some (.int .i64 (n38 : Int)) := cell_of_row _ _ 2 _ _ _ HX39.out
                  have x3 : v39.cell? ⟨xb, 3, none⟩ = some (.int .i64 0) := cell_of_row _ _ 3 _ _ _ HX39.out
                  have d0 : v39.cell? ⟨rb, 0, none⟩ = some (.int .i64 0) := cell_of_row _ _ 0 _ _ _ HZ39.out
                  have f0 : v39.frozen? ⟨rb, 0, none⟩ = false := frz_row HZ39.out 0
                  have d1 : v39.cell? ⟨rb, 1, none⟩ = some (.int .i64 0) := cell_of_row _ _ 1 _ _ _ HZ39.out
                  have f1 : v39.frozen? ⟨rb, 1, none⟩ = false := frz_row HZ39.out 1
                  have d2 : v39.cell? ⟨rb, 2, none⟩ = some (.int .i64 0) := cell_of_row _ _ 2 _ _ _ HZ39.out
                  have f2 : v39.frozen? ⟨rb, 2, none⟩ = false := frz_row HZ39.out 2
                  have d3 : v39.cell? ⟨rb, 3, none⟩ = some (.int .i64 0) := cell_of_row _ _ 3 _ _ _ HZ39.out
                  have f3 : v39.frozen? ⟨rb, 3, none⟩ = false := frz_row HZ39.out 3
                  go_wp2_with fail
                  have S0 := HZ39
                  have R0 := HR39
                  have G0 := HG39
                  have S1 := hid (show (v39.setCell ⟨rb, 0, none⟩ (.int .i64 (m : Int))).heap[rb]? = some (.cells #[.int .i64 (m : Int), .int .i64 0, .int .i64 0, .int .i64 0] 68 (0, 0)) from by rw [setCell_eq_setRow _ _ _ _ _ _ _ S0.out, setRow_heap _ _ _ _ _ _ S0.out]; rfl)
                  have R1 := hid (dm_new (j := 0) (v := .int .i64 (m : Int)) R0.out S0.out K0.out)
                  have G1 := hid (gb_new (j := 0) (v := .int .i64 (m : Int)) G0.out S0.out K1.out)
                  have S2 := hid (show ((v39.setCell ⟨rb, 0, none⟩ (.int .i64 (m : Int))).setCell ⟨rb, 1, none⟩ (.int .i64 (n29 : Int))).heap[rb]? = some (.cells #[.int .i64 (m : Int), .int .i64 (n29 : Int), .int .i64 0, .int .i64 0] 68 (0, 0)) from by rw [setCell_eq_setRow _ _ _ _ _ _ _ S1.out, setRow_heap _ _ _ _ _ _ S1.out]; rfl)
                  have R2 := hid (dm_new (j := 1) (v := .int .i64 (n29 : Int)) R1.out S1.out K0.out)
                  have G2 := hid (gb_new (j := 1) (v := .int .i64 (n29 : Int)) G1.out S1.out K1.out)
                  have S3 := hid (show (((v39.setCell ⟨rb, 0, none⟩ (.int .i64 (m : Int))).setCell ⟨rb, 1, none⟩ (.int .i64 (n29 : Int))).setCell ⟨rb, 2, none⟩ (.int .i64 (n38 : Int))).heap[rb]? = some (.cells #[.int .i64 (m : Int), .int .i64 (n29 : Int), .int .i64 (n38 : Int), .int .i64 0] 68 (0, 0)) from by rw [setCell_eq_setRow _ _ _ _ _ _ _ S2.out, setRow_heap _ _ _ _ _ _ S2.out]; rfl)
                  have R3 := hid (dm_new (j := 2) (v := .int .i64 (n38 : Int)) R2.out S2.out K0.out)
                  have G3 := hid (gb_new (j := 2) (v := .int .i64 (n38 : Int)) G2.out S2.out K1.out)
                  have S4 := hid (show ((((v39.setCell ⟨rb, 0, none⟩ (.int .i64 (m : Int))).setCell ⟨rb, 1, none⟩ (.int .i64 (n29 : Int))).setCell ⟨rb, 2, none⟩ (.int .i64 (n38 : Int))).setCell ⟨rb, 3, none⟩ (.int .i64 0)).heap[rb]? = some (.cells #[.int .i64 (m : Int), .int .i64 (n29 : Int), .int .i64 (n38 : Int), .int .i64 0] 68 (0, 0)) from by rw [setCell_eq_setRow _ _ _ _ _ _ _ S3.out, setRow_heap _ _ _ _ _ _ S3.out]; rfl)
                  have R4 := hid (dm_new (j := 3) (v := .int .i64 0) R3.out S3.out K0.out)
                  have G4 := hid (gb_new (j := 3) (v := .int .i64 0) G3.out S3.out K1.out)
                  generalize ((((v39.setCell ⟨rb, 0, none⟩ (.int .i64 (m : Int))).setCell ⟨rb, 1, none⟩ (.int .i64 (n29 : Int))).setCell ⟨rb, 2, none⟩ (.int .i64 (n38 : Int))).setCell ⟨rb, 3, none⟩ (.int .i64 0)) = U2 at *
                  refine ⟨rfl, .agg #[.int .i64 (m : Int), .int .i64 (n29 : Int), .int .i64 (n38 : Int), .int .i64 0], results_cell_row Try.results34 _ U2 rb 68 #[.int .i64 (m : Int), .int .i64 (n29 : Int), .int .i64 (n38 : Int), .int .i64 0] (0, 0) _ rfl S4.out Try.underlying68 rfl infoIn, ?_⟩
                  rw [HE3.out]
                  exact ⟨_, rfl, rfl, R4.out, G4.out⟩
                | true =>
                  have HC := hid (dcnt_any HR39.out 0 65535 (by decide) (by decide))
                  obtain ⟨r0, hr0⟩ : ∃ r0, r0 = cntD B k38 0 65535 9 0 k38 0 := ⟨_, rfl⟩
                  have hq : optP true B k38 = dbnd r0 (fun n k1 => .ok ((n : Int), k1)) := by rw [hr0]; rfl
                  rw [← hr0] at HC
                  have he : dbnd (optP true B k38) (fun w k1 => insR B (m : Int) true true true 3 (n29 : Int) (n38 : Int) w k1) = res := HE.out
                  rw [hq] at he
                  clear hr0 hq
                  cases r0 with
                  | error e0 =>
                    obtain ⟨c0, p0⟩ := e0
                    have HE3 := hid (show res = .error (c0, p0) from he.symm)
                    clear he
                    go_wp2_with fail
                    refine HC.out.mono ?_
                    rintro e u40 ⟨vv, k5, rfl, rfl, h0, h3, h4⟩
                    have HC0 := hid h0
                    have HR40 := hid h3
                    have HX40 := hid (h4.at HX39.out K5.out)
                    have HZ40 := hid (h4.at HZ39.out K6.out)
                    have HG40 := hid (HG39.out.trans h4)
                    clear h0 h3 h4 HC
                    have f5 : u40.frozen? ⟨xb, 3, none⟩ = false := frz_row HX40.out 3
                    have c5 : u40.cell? ⟨xb, 3, none⟩ = some (.int .i64 0) := cell_of_row _ _ 3 _ _ _ HX40.out
                    go_upto_region 20 with fail
                    have HX41 := hid (show (u40.setCell ⟨xb, 3, none⟩ (.int .i64 0)).heap[xb]? = some (.cells #[.int .i64 (m : Int), .int .i64 (n29 : Int), .int .i64 (n38 : Int), .int .i64 0] 68 (0, 0)) from by rw [setCell_eq_setRow _ _ _ _ _ _ _ HX40.out, setRow_heap _ _ _ _ _ _ HX40.out]; rfl)
                    have HZ41 := hid (show (u40.setCell ⟨xb, 3, none⟩ (.int .i64 0)).heap[rb]? = some (.cells #[.int .i64 0, .int .i64 0, .int .i64 0, .int .i64 0] 68 (0, 0)) from by rw [setCell_eq_setRow _ _ _ _ _ _ _ HX40.out, setRow_other _ _ _ _ K2.out]; exact HZ40.out)
                    have HR41 := hid (dm_new (j := 3) (v := .int .i64 0) HR40.out HX40.out K3.out)
                    have HG41 := hid (gb_new (j := 3) (v := .int .i64 0) HG40.out HX40.out K4.out)
                    generalize (u40.setCell ⟨xb, 3, none⟩ (.int .i64 0)) = v41 at *
                    clear f5 c5
                    have x0 : v41.cell? ⟨xb, 0, none⟩ = some (.int .i64 (m : Int)) := cell_of_row _ _ 0 _ _ _ HX41.out
                    have x1 : v41.cell? ⟨xb, 1, none⟩ = some (.int .i64 (n29 : Int)) := cell_of_row _ _ 1 _ _ _ HX41.out
                    have x2 : v41.cell? ⟨xb, 2, none⟩ = some (.int .i64 (n38 : Int)) := cell_of_row _ _ 2 _ _ _ HX41.out
                    have x3 : v41.cell? ⟨xb, 3, none⟩ = some (.int .i64 0) := cell_of_row _ _ 3 _ _ _ HX41.out
                    have d0 : v41.cell? ⟨rb, 0, none⟩ = some (.int .i64 0) := cell_of_row _ _ 0 _ _ _ HZ41.out
                    have f0 : v41.frozen? ⟨rb, 0, none⟩ = false := frz_row HZ41.out 0
                    have d1 : v41.cell? ⟨rb, 1, none⟩ = some (.int .i64 0) := cell_of_row _ _ 1 _ _ _ HZ41.out
                    have f1 : v41.frozen? ⟨rb, 1, none⟩ = false := frz_row HZ41.out 1
                    have d2 : v41.cell? ⟨rb, 2, none⟩ = some (.int .i64 0) := cell_of_row _ _ 2 _ _ _ HZ41.out
                    have f2 : v41.frozen? ⟨rb, 2, none⟩ = false := frz_row HZ41.out 2
                    have d3 : v41.cell? ⟨rb, 3, none⟩ = some (.int .i64 0) := cell_of_row _ _ 3 _ _ _ HZ41.out
                    have f3 : v41.frozen? ⟨rb, 3, none⟩ = false := frz_row HZ41.out 3
                    go_wp2_with fail
                    have S0 := HZ41
                    have R0 := HR41
                    have G0 := HG41
                    have S1 := hid (show (v41.setCell ⟨rb, 0, none⟩ (.int .i64 (m : Int))).heap[rb]? = some (.cells #[.int .i64 (m : Int), .int .i64 0, .int .i64 0, .int .i64 0] 68 (0, 0)) from by rw [setCell_eq_setRow _ _ _ _ _ _ _ S0.out, setRow_heap _ _ _ _ _ _ S0.out]; rfl)
                    have R1 := hid (dm_new (j := 0) (v := .int .i64 (m : Int)) R0.out S0.out K0.out)
                    have G1 := hid (gb_new (j := 0) (v := .int .i64 (m : Int)) G0.out S0.out K1.out)
                    have S2 := hid (show ((v41.setCell ⟨rb, 0, none⟩ (.int .i64 (m : Int))).setCell ⟨rb, 1, none⟩ (.int .i64 (n29 : Int))).heap[rb]? = some (.cells #[.int .i64 (m : Int), .int .i64 (n29 : Int), .int .i64 0, .int .i64 0] 68 (0, 0)) from by rw [setCell_eq_setRow _ _ _ _ _ _ _ S1.out, setRow_heap _ _ _ _ _ _ S1.out]; rfl)
                    have R2 := hid (dm_new (j := 1) (v := .int .i64 (n29 : Int)) R1.out S1.out K0.out)
                    have G2 := hid (gb_new (j := 1) (v := .int .i64 (n29 : Int)) G1.out S1.out K1.out)
                    have S3 := hid (show (((v41.setCell ⟨rb, 0, none⟩ (.int .i64 (m : Int))).setCell ⟨rb, 1, none⟩ (.int .i64 (n29 : Int))).setCell ⟨rb, 2, none⟩ (.int .i64 (n38 : Int))).heap[rb]? = some (.cells #[.int .i64 (m : Int), .int .i64 (n29 : Int), .int .i64 (n38 : Int), .int .i64 0] 68 (0, 0)) from by rw [setCell_eq_setRow _ _ _ _ _ _ _ S2.out, setRow_heap _ _ _ _ _ _ S2.out]; rfl)
                    have R3 := hid (dm_new (j := 2) (v := .int .i64 (n38 : Int)) R2.out S2.out K0.out)
                    have G3 := hid (gb_new (j := 2) (v := .int .i64 (n38 : Int)) G2.out S2.out K1.out)
                    have S4 := hid (show ((((v41.setCell ⟨rb, 0, none⟩ (.int .i64 (m : Int))).setCell ⟨rb, 1, none⟩ (.int .i64 (n29 : Int))).setCell ⟨rb, 2, none⟩ (.int .i64 (n38 : Int))).setCell ⟨rb, 3, none⟩ (.int .i64 0)).heap[rb]? = some (.cells #[.int .i64 (m : Int), .int .i64 (n29 : Int), .int .i64 (n38 : Int), .int .i64 0] 68 (0, 0)) from by rw [setCell_eq_setRow _ _ _ _ _ _ _ S3.out, setRow_heap _ _ _ _ _ _ S3.out]; rfl)
                    have R4 := hid (dm_new (j := 3) (v := .int .i64 0) R3.out S3.out K0.out)
                    have G4 := hid (gb_new (j := 3) (v := .int .i64 0) G3.out S3.out K1.out)
                    generalize ((((v41.setCell ⟨rb, 0, none⟩ (.int .i64 (m : Int))).setCell ⟨rb, 1, none⟩ (.int .i64 (n29 : Int))).setCell ⟨rb, 2, none⟩ (.int .i64 (n38 : Int))).setCell ⟨rb, 3, none⟩ (.int .i64 0)) = U2 at *
                    refine ⟨rfl, .agg #[.int .i64 (m : Int), .int .i64 (n29 : Int), .int .i64 (n38 : Int), .int .i64 0], results_cell_row Try.results34 _ U2 rb 68 #[.int .i64 (m : Int), .int .i64 (n29 : Int), .int .i64 (n38 : Int), .int .i64 0] (0, 0) _ rfl S4.out Try.underlying68 rfl infoIn, ?_⟩
                    rw [HE3.out]
                    exact ⟨_, _, rfl, ⟨⟨(m : Int), (n29 : Int), (n38 : Int), 0⟩, rfl⟩, HC0.out, R4.out, G4.out⟩
                  | ok y0 =>
                    obtain ⟨n42, k42⟩ := y0
                    have HE := hid (show insR B (m : Int) true true true 3 (n29 : Int) (n38 : Int) (n42 : Int) k42 = res from he)
                    clear he
                    go_wp2_with fail
                    refine HC.out.mono ?_
                    rintro e u42 ⟨vv, rfl, rfl, h3, h4⟩
                    have HR42 := hid h3
                    have HX42 := hid (h4.at HX39.out K5.out)
                    have HZ42 := hid (h4.at HZ39.out K6.out)
                    have HG42 := hid (HG39.out.trans h4)
                    clear h3 h4 HC
                    have f5 : u42.frozen? ⟨xb, 3, none⟩ = false := frz_row HX42.out 3
                    have c5 : u42.cell? ⟨xb, 3, none⟩ = some (.int .i64 0) := cell_of_row _ _ 3 _ _ _ HX42.out
                    go_upto_region 20 with fail
                    have HX43 := hid (show (u42.setCell ⟨xb, 3, none⟩ (.int .i64 (n42 : Int))).heap[xb]? = some (.cells #[.int .i64 (m : Int), .int .i64 (n29 : Int), .int .i64 (n38 : Int), .int .i64 (n42 : Int)] 68 (0, 0)) from by rw [setCell_eq_setRow _ _ _ _ _ _ _ HX42.out, setRow_heap _ _ _ _ _ _ HX42.out]; rfl)
                    have HZ43 := hid (show (u42.setCell ⟨xb, 3, none⟩ (.int .i64 (n42 : Int))).heap[rb]? = some (.cells #[.int .i64 0, .int .i64 0, .int .i64 0, .int .i64 0] 68 (0, 0)) from by rw [setCell_eq_setRow _ _ _ _ _ _ _ HX42.out, setRow_other _ _ _ _ K2.out]; exact HZ42.out)
                    have HR43 := hid (dm_new (j := 3) (v := .int .i64 (n42 : Int)) HR42.out HX42.out K3.out)
                    have HG43 := hid (gb_new (j := 3) (v := .int .i64 (n42 : Int)) HG42.out HX42.out K4.out)
                    generalize (u42.setCell ⟨xb, 3, none⟩ (.int .i64 (n42 : Int))) = v43 at *
                    clear f5 c5
                    have HE3 := hid (show res = .ok (⟨(m : Int), (n29 : Int), (n38 : Int), (n42 : Int)⟩, k42) from HE.out.symm)
                    have x0 : v43.cell? ⟨xb, 0, none⟩ = some (.int .i64 (m : Int)) := cell_of_row _ _ 0 _ _ _ HX43.out
                    have x1 : v43.cell? ⟨xb, 1, none⟩ = some (.int .i64 (n29 : Int)) := cell_of_row _ _ 1 _ _ _ HX43.out
                    have x2 : v43.cell? ⟨xb, 2, none⟩ = some (.int .i64 (n38 : Int)) := cell_of_row _ _ 2 _ _ _ HX43.out
                    have x3 : v43.cell? ⟨xb, 3, none⟩ = some (.int .i64 (n42 : Int)) := cell_of_row _ _ 3 _ _ _ HX43.out
                    have d0 : v43.cell? ⟨rb, 0, none⟩ = some (.int .i64 0) := cell_of_row _ _ 0 _ _ _ HZ43.out
                    have f0 : v43.frozen? ⟨rb, 0, none⟩ = false := frz_row HZ43.out 0
                    have d1 : v43.cell? ⟨rb, 1, none⟩ = some (.int .i64 0) := cell_of_row _ _ 1 _ _ _ HZ43.out
                    have f1 : v43.frozen? ⟨rb, 1, none⟩ = false := frz_row HZ43.out 1
                    have d2 : v43.cell? ⟨rb, 2, none⟩ = some (.int .i64 0) := cell_of_row _ _ 2 _ _ _ HZ43.out
                    have f2 : v43.frozen? ⟨rb, 2, none⟩ = false := frz_row HZ43.out 2
                    have d3 : v43.cell? ⟨rb, 3, none⟩ = some (.int .i64 0) := cell_of_row _ _ 3 _ _ _ HZ43.out
                    have f3 : v43.frozen? ⟨rb, 3, none⟩ = false := frz_row HZ43.out 3
                    go_wp2_with fail
                    have S0 := HZ43
                    have R0 := HR43
                    have G0 := HG43
                    have S1 := hid (show (v43.setCell ⟨rb, 0, none⟩ (.int .i64 (m : Int))).heap[rb]? = some (.cells #[.int .i64 (m : Int), .int .i64 0, .int .i64 0, .int .i64 0] 68 (0, 0)) from by rw [setCell_eq_setRow _ _ _ _ _ _ _ S0.out, setRow_heap _ _ _ _ _ _ S0.out]; rfl)
                    have R1 := hid (dm_new (j := 0) (v := .int .i64 (m : Int)) R0.out S0.out K0.out)
                    have G1 := hid (gb_new (j := 0) (v := .int .i64 (m : Int)) G0.out S0.out K1.out)
                    have S2 := hid (show ((v43.setCell ⟨rb, 0, none⟩ (.int .i64 (m : Int))).setCell ⟨rb, 1, none⟩ (.int .i64 (n29 : Int))).heap[rb]? = some (.cells #[.int .i64 (m : Int), .int .i64 (n29 : Int), .int .i64 0, .int .i64 0] 68 (0, 0)) from by rw [setCell_eq_setRow _ _ _ _ _ _ _ S1.out, setRow_heap _ _ _ _ _ _ S1.out]; rfl)
                    have R2 := hid (dm_new (j := 1) (v := .int .i64 (n29 : Int)) R1.out S1.out K0.out)
                    have G2 := hid (gb_new (j := 1) (v := .int .i64 (n29 : Int)) G1.out S1.out K1.out)
                    have S3 := hid (show (((v43.setCell ⟨rb, 0, none⟩ (.int .i64 (m : Int))).setCell ⟨rb, 1, none⟩ (.int .i64 (n29 : Int))).setCell ⟨rb, 2, none⟩ (.int .i64 (n38 : Int))).heap[rb]? = some (.cells #[.int .i64 (m : Int), .int .i64 (n29 : Int), .int .i64 (n38 : Int), .int .i64 0] 68 (0, 0)) from by rw [setCell_eq_setRow _ _ _ _ _ _ _ S2.out, setRow_heap _ _ _ _ _ _ S2.out]; rfl)
                    have R3 := hid (dm_new (j := 2) (v := .int .i64 (n38 : Int)) R2.out S2.out K0.out)
                    have G3 := hid (gb_new (j := 2) (v := .int .i64 (n38 : Int)) G2.out S2.out K1.out)
                    have S4 := hid (show ((((v43.setCell ⟨rb, 0, none⟩ (.int .i64 (m : Int))).setCell ⟨rb, 1, none⟩ (.int .i64 (n29 : Int))).setCell ⟨rb, 2, none⟩ (.int .i64 (n38 : Int))).setCell ⟨rb, 3, none⟩ (.int .i64 (n42 : Int))).heap[rb]? = some (.cells #[.int .i64 (m : Int), .int .i64 (n29 : Int), .int .i64 (n38 : Int), .int .i64 (n42 : Int)] 68 (0, 0)) from by rw [setCell_eq_setRow _ _ _ _ _ _ _ S3.out, setRow_heap _ _ _ _ _ _ S3.out]; rfl)
                    have R4 := hid (dm_new (j := 3) (v := .int .i64 (n42 : Int)) R3.out S3.out K0.out)
                    have G4 := hid (gb_new (j := 3) (v := .int .i64 (n42 : Int)) G3.out S3.out K1.out)
                    generalize ((((v43.setCell ⟨rb, 0, none⟩ (.int .i64 (m : Int))).setCell ⟨rb, 1, none⟩ (.int .i64 (n29 : Int))).setCell ⟨rb, 2, none⟩ (.int .i64 (n38 : Int))).setCell ⟨rb, 3, none⟩ (.int .i64 (n42 : Int))) = U2 at *
                    refine ⟨rfl, .agg #[.int .i64 (m : Int), .int .i64 (n29 : Int), .int .i64 (n38 : Int), .int .i64 (n42 : Int)], results_cell_row Try.results34 _ U2 rb 68 #[.int .i64 (m : Int), .int .i64 (n29 : Int), .int .i64 (n38 : Int), .int .i64 (n42 : Int)] (0, 0) _ rfl S4.out Try.underlying68 rfl infoIn, ?_⟩
                    rw [HE3.out]
                    exact ⟨_, rfl, rfl, R4.out, G4.out⟩
  · rw [if_neg hkl] at hres
    have hkb : k = B.length := by have := HR1.out.le; omega
    have HE3 := hid (show res = .error (201, B.length) from by rw [hres, hkb])
    have HC0 := hid (show (201 : Nat) ≠ 0 by decide)
    have a1 : (B.length : Int) ≤ (k : Int) := by omega
    clear hkl hres hkb
    go_upto_region 4 with fail
    go_quiet (fail)
    have HD := hid (drew_below V nq)
    have HR2 := hid (HR1.out.low' HD.out)
    have HG2 := hid (HG1.out.trans (Gb.of HD.out))
    have HX2 := hid ((HD.out.block _ (lt_blk HX1.out)).trans HX1.out)
    have HZ2 := hid ((HD.out.block _ (lt_blk HZ1.out)).trans HZ1.out)
    have c0 := (HD.out.cell (p := ⟨g, 0, none⟩) (lt_blk HR1.out.box)).trans c0
    generalize V.drewN nq = U1 at *
    clear c2 c1 HR1 HG1 HX1 HZ1
    have HFA := hid (dfail_any HR2.out 201 B.length)
    go_wp2_with fail
    refine HFA.out.mono ?_
    rintro e U ⟨rfl, h1, h2⟩
    have HR4 := hid h1
    have HG4 := hid (HG2.out.trans h2)
    have HX4 := hid (h2.at HX2.out K5.out)
    have HZ4 := hid (h2.at HZ2.out K6.out)
    clear h1 h2 HFA c0
    have x0 : U.cell? ⟨xb, 0, none⟩ = some (.int .i64 0) := cell_of_row _ _ 0 _ _ _ HX4.out
    have x1 : U.cell? ⟨xb, 1, none⟩ = some (.int .i64 0) := cell_of_row _ _ 1 _ _ _ HX4.out
    have x2 : U.cell? ⟨xb, 2, none⟩ = some (.int .i64 0) := cell_of_row _ _ 2 _ _ _ HX4.out
    have x3 : U.cell? ⟨xb, 3, none⟩ = some (.int .i64 0) := cell_of_row _ _ 3 _ _ _ HX4.out
    have d0 : U.cell? ⟨rb, 0, none⟩ = some (.int .i64 0) := cell_of_row _ _ 0 _ _ _ HZ4.out
    have f0 : U.frozen? ⟨rb, 0, none⟩ = false := frz_row HZ4.out 0
    have d1 : U.cell? ⟨rb, 1, none⟩ = some (.int .i64 0) := cell_of_row _ _ 1 _ _ _ HZ4.out
    have f1 : U.frozen? ⟨rb, 1, none⟩ = false := frz_row HZ4.out 1
    have d2 : U.cell? ⟨rb, 2, none⟩ = some (.int .i64 0) := cell_of_row _ _ 2 _ _ _ HZ4.out
    have f2 : U.frozen? ⟨rb, 2, none⟩ = false := frz_row HZ4.out 2
    have d3 : U.cell? ⟨rb, 3, none⟩ = some (.int .i64 0) := cell_of_row _ _ 3 _ _ _ HZ4.out
    have f3 : U.frozen? ⟨rb, 3, none⟩ = false := frz_row HZ4.out 3
    go_wp2_with fail
    have S0 := HZ4
    have R0 := HR4
    have G0 := HG4
    have S1 := hid (show (U.setCell ⟨rb, 0, none⟩ (.int .i64 0)).heap[rb]? = some (.cells #[.int .i64 0, .int .i64 0, .int .i64 0, .int .i64 0] 68 (0, 0)) from by rw [setCell_eq_setRow _ _ _ _ _ _ _ S0.out, setRow_heap _ _ _ _ _ _ S0.out]; rfl)
    have R1 := hid (dm_new (j := 0) (v := .int .i64 0) R0.out S0.out K0.out)
    have G1 := hid (gb_new (j := 0) (v := .int .i64 0) G0.out S0.out K1.out)
    have S2 := hid (show ((U.setCell ⟨rb, 0, none⟩ (.int .i64 0)).setCell ⟨rb, 1, none⟩ (.int .i64 0)).heap[rb]? = some (.cells #[.int .i64 0, .int .i64 0, .int .i64 0, .int .i64 0] 68 (0, 0)) from by rw [setCell_eq_setRow _ _ _ _ _ _ _ S1.out, setRow_heap _ _ _ _ _ _ S1.out]; rfl)
    have R2 := hid (dm_new (j := 1) (v := .int .i64 0) R1.out S1.out K0.out)
    have G2 := hid (gb_new (j := 1) (v := .int .i64 0) G1.out S1.out K1.out)
    have S3 := hid (show (((U.setCell ⟨rb, 0, none⟩ (.int .i64 0)).setCell ⟨rb, 1, none⟩ (.int .i64 0)).setCell ⟨rb, 2, none⟩ (.int .i64 0)).heap[rb]? = some (.cells #[.int .i64 0, .int .i64 0, .int .i64 0, .int .i64 0] 68 (0, 0)) from by rw [setCell_eq_setRow _ _ _ _ _ _ _ S2.out, setRow_heap _ _ _ _ _ _ S2.out]; rfl)
    have R3 := hid (dm_new (j := 2) (v := .int .i64 0) R2.out S2.out K0.out)
    have G3 := hid (gb_new (j := 2) (v := .int .i64 0) G2.out S2.out K1.out)
    have S4 := hid (show ((((U.setCell ⟨rb, 0, none⟩ (.int .i64 0)).setCell ⟨rb, 1, none⟩ (.int .i64 0)).setCell ⟨rb, 2, none⟩ (.int .i64 0)).setCell ⟨rb, 3, none⟩ (.int .i64 0)).heap[rb]? = some (.cells #[.int .i64 0, .int .i64 0, .int .i64 0, .int .i64 0] 68 (0, 0)) from by rw [setCell_eq_setRow _ _ _ _ _ _ _ S3.out, setRow_heap _ _ _ _ _ _ S3.out]; rfl)
    have R4 := hid (dm_new (j := 3) (v := .int .i64 0) R3.out S3.out K0.out)
    have G4 := hid (gb_new (j := 3) (v := .int .i64 0) G3.out S3.out K1.out)
    generalize ((((U.setCell ⟨rb, 0, none⟩ (.int .i64 0)).setCell ⟨rb, 1, none⟩ (.int .i64 0)).setCell ⟨rb, 2, none⟩ (.int .i64 0)).setCell ⟨rb, 3, none⟩ (.int .i64 0)) = U2 at *
    refine ⟨rfl, .agg #[.int .i64 0, .int .i64 0, .int .i64 0, .int .i64 0], results_cell_row Try.results34 _ U2 rb 68 #[.int .i64 0, .int .i64 0, .int .i64 0, .int .i64 0] (0, 0) _ rfl S4.out Try.underlying68 rfl infoIn, ?_⟩
    rw [HE3.out]
    exact ⟨_, _, rfl, ⟨⟨0, 0, 0, 0⟩, rfl⟩, HC0.out, R4.out, G4.out⟩
end Go.Proofs.Ytnclpdgbjefpmaa.L
