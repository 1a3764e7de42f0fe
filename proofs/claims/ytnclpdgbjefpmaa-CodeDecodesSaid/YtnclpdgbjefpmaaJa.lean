import Derived.Deep.QuietTactic
import Derived.BigQuiet
import Derived.Test.YtnclpdgbjefpmaaGm
namespace Go.Proofs.Ytnclpdgbjefpmaa.L
open Go.RowKit
set_option linter.unusedVariables false
set_option linter.unusedSimpArgs false
/-- The document's reader in memory: its place, its fault's code and place. -/
structure Dm (g : Nat) (a : Option Addr) (cap : Nat) (B : List UInt8) (W : World) (k cd bd : Nat) : Prop where
  box : W.heap[g]? = some (.cells #[.slice a B.length cap, .int .i64 (k : Int), .int .i64 (cd : Int), .int .i64 (bd : Int)] 73 (0, 0))
  row : BR W a B
  low : ∀ b off u, a = some ⟨b, off, u⟩ → b < g
  le : k ≤ B.length
  len : B.length ≤ 140737488355328
  cpl : B.length ≤ cap
  cpm : cap ≤ maxLen
theorem Dm.go {g : Nat} {a : Option Addr} {cap : Nat} {B : List UInt8} {W W' : World} {k cd bd k' cd' bd' : Nat} (h : Dm g a cap B W k cd bd) (hg : Gb g W W') (hb : W'.heap[g]? = some (.cells #[.slice a B.length cap, .int .i64 (k' : Int), .int .i64 (cd' : Int), .int .i64 (bd' : Int)] 73 (0, 0))) (hk : k' ≤ B.length) : Dm g a cap B W' k' cd' bd' := by
  refine ⟨hb, ?_, h.low, hk, h.len, h.cpl, h.cpm⟩
  rcases h.row with h0 | ⟨b, off, rfl, h1⟩
  · exact Or.inl h0
  · refine Or.inr ⟨b, off, rfl, fun j hj => ?_⟩
    have h2 := h1 j hj
    have h3 := h.low b off none rfl
    have h4 := lt_blk h.box
    exact (World.cell?_of_block (a := ⟨b, off + j, none⟩) (hg.block b (by omega) (fun e => by injection e; omega))).trans h2
theorem Dm.low' {g : Nat} {a : Option Addr} {cap : Nat} {B : List UInt8} {W W' : World} {k cd bd : Nat} (h : Dm g a cap B W k cd bd) (hb : Below W.heap.size W W') : Dm g a cap B W' k cd bd :=
  h.go (Gb.of hb) ((hb.block _ (lt_blk h.box)).trans h.box) h.le
/-- What a piece of it does: with what was read, or a fault, and something else in its place. -/
def Do {α : Type} (g : Nat) (a : Option Addr) (cap : Nat) (B : List UInt8) (V : α → Value → World → Prop) (J : Value → World → Prop) (r : DR α) (W : World) (e : Ending) (W' : World) : Prop :=
  match r with
  | .ok (x, k') => ∃ v, e = .returned v ∧ V x v W' ∧ Dm g a cap B W' k' 0 0 ∧ Gb g W W'
  | .error (c, p) => ∃ v k', e = .returned v ∧ J v W' ∧ c ≠ 0 ∧ Dm g a cap B W' k' c p ∧ Gb g W W'
set_option maxHeartbeats 1000000 in
set_option maxRecDepth 100000 in
theorem dfail_any {g : Nat} {a : Option Addr} {cap : Nat} {B : List UInt8} {W : World} {k : Nat} (h : Dm g a cap B W k 0 0) (c p : Nat) :
    Calls Try.prog 35 #[.pointer (some ⟨g, 0, none⟩), .int .i64 (c : Int), .int .i64 (p : Int)] W fun e w' => e = .returned (.tuple #[]) ∧ Dm g a cap B w' k c p ∧ Gb g W w' := by
  have c2 : W.cell? ⟨g, 2, none⟩ = some (.int .i64 0) := cell_of_row _ _ 2 _ _ _ h.box
  have f2 : W.frozen? ⟨g, 2, none⟩ = false := frz_row h.box 2
  have HG2 := hid (gb_set h.box 2 (.int .i64 (c : Int)))
  have HB2 := hid (show (W.setCell ⟨g, 2, none⟩ (.int .i64 (c : Int))).heap[g]? = some (.cells #[.slice a B.length cap, .int .i64 (k : Int), .int .i64 (c : Int), .int .i64 ((0 : Nat) : Int)] 73 (0, 0)) from by
    rw [setCell_eq_setRow _ _ _ _ _ _ _ h.box, setRow_heap _ _ _ _ _ _ h.box]; rfl)
  have f3 : (W.setCell ⟨g, 2, none⟩ (.int .i64 (c : Int))).frozen? ⟨g, 3, none⟩ = false := frz_row HB2.out 3
  have d3 : (W.setCell ⟨g, 2, none⟩ (.int .i64 (c : Int))).cell? ⟨g, 3, none⟩ = some (.int .i64 0) := cell_of_row _ _ 3 _ _ _ HB2.out
  have HG3 := hid (gb_set HB2.out 3 (.int .i64 (p : Int)))
  have HB3 := hid (show ((W.setCell ⟨g, 2, none⟩ (.int .i64 (c : Int))).setCell ⟨g, 3, none⟩ (.int .i64 (p : Int))).heap[g]? = some (.cells #[.slice a B.length cap, .int .i64 (k : Int), .int .i64 (c : Int), .int .i64 (p : Int)] 73 (0, 0)) from by
    rw [setCell_eq_setRow _ _ _ _ _ _ _ HB2.out, setRow_heap _ _ _ _ _ _ HB2.out]; rfl)
  have HR3 := hid ((h.go HG2.out HB2.out h.le).go HG3.out HB3.out h.le)
  have HGB := hid (Gb.trans HG2.out HG3.out)
  clear h
  go_enter Try.func35, Try.ntmps35
  go_wp2_with fail
  go_end0
  exact ⟨rfl, HR3.out, HGB.out⟩
set_option maxHeartbeats 1000000 in
set_option maxRecDepth 100000 in
theorem dcnt_bad {g : Nat} {a : Option Addr} {cap : Nat} {B : List UInt8} {W : World} {k c p : Nat} (h : Dm g a cap B W k c p) (hc : c ≠ 0) (lo hi : Int) :
    Calls Try.prog 30 #[.pointer (some ⟨g, 0, none⟩), .int .i64 lo, .int .i64 hi] W fun e w' => e = .returned (.int .i64 0) ∧ w' = W := by
  have c2 : W.cell? ⟨g, 2, none⟩ = some (.int .i64 (c : Int)) := cell_of_row _ _ 2 _ _ _ h.box
  have h1 : ((c : Int) != 0) = true := by simpa using hc
  have h2 : ((c : Int) == 0) = false := by simpa using hc
  clear h
  go_enter Try.func30, Try.ntmps30
  go_wp2_with fail
  go_ret
  exact ⟨rfl, rfl⟩
theorem cell_lt {w : World} {p : Addr} {v : Value} (h : w.cell? p = some v) : p.block < w.heap.size := by
  apply Classical.byContradiction
  intro n
  have : w.heap[p.block]? = none := Array.getElem?_eq_none (by omega)
  simp [World.cell?, this] at h
def lgm (v : Value) : Nat := Nat.log2 (intOf v).toNat / 7
theorem lgm_pow (j : Nat) : lgm (.int .i64 ((128 ^ j : Nat) : Int)) = j := by
  unfold lgm
  show Nat.log2 (((128 ^ j : Nat) : Int)).toNat / 7 = j
  rw [Int.toNat_natCast, show 128 ^ j = 2 ^ (7 * j) from by rw [Nat.pow_mul], Nat.log2_two_pow]
  omega
theorem w64_nat {n : Nat} (h : n < 9223372036854775808) : wrap64 (n : Int) = (n : Int) := by unfold wrap64; omega
set_option maxHeartbeats 2000000 in
set_option maxRecDepth 100000 in
theorem dcnt_any {g : Nat} {a : Option Addr} {cap : Nat} {B : List UInt8} {W : World} {k : Nat} (h : Dm g a cap B W k 0 0) (lo hi : Nat) (hhi : hi < 9223372036854775808) (hlo : lo < 9223372036854775808) :
    Calls Try.prog 30 #[.pointer (some ⟨g, 0, none⟩), .int .i64 (lo : Int), .int .i64 (hi : Int)] W (Do (α := Nat) g a cap B (fun (n : Nat) v _ => v = .int .i64 (n : Int)) (fun v _ => v = .int .i64 0) (cntD B k lo hi 9 0 k 0) W) := by
  have HR := hid h
  have hlen := h.len
  have hle := h.le
  have hbm : B.length ≤ maxLen := by unfold maxLen; omega
  obtain ⟨res, hres⟩ : ∃ r, r = cntD B k lo hi 9 0 k 0 := ⟨_, rfl⟩
  rw [← hres]
  have HRES := hid hres
  have c1 : W.cell? ⟨g, 1, none⟩ = some (.int .i64 (k : Int)) := cell_of_row _ _ 1 _ _ _ h.box
  have c2 : W.cell? ⟨g, 2, none⟩ = some (.int .i64 0) := cell_of_row _ _ 2 _ _ _ h.box
  clear h hres
  go_enter Try.func30, Try.ntmps30
  go_wp2_with fail
  clear c1 c2
  go_loopw [8, 9] (fun nv uv wr => ∃ (N j : Nat), j ≤ 8 ∧ nv = .int .i64 (N : Int) ∧ uv = .int .i64 ((128 ^ j : Nat) : Int) ∧ Hid (N < 128 ^ j) ∧ Hid (Dm g a cap B wr (k + j) 0 0) ∧ Hid (Gb g W wr) ∧ Hid (cntD B k lo hi (9 - j) j (k + j) N = res)) (fun _ uv _ => 9 - lgm uv)
  case atStart => exact ⟨0, 0, by omega, rfl, rfl, hid (by decide), HR, hid (Gb.refl _ _), hid HRES.out.symm⟩
  case round =>
    obtain ⟨N, j, hj, rfl, rfl, HN, HRJ, HGB, HE⟩ := hrel
    obtain ⟨m9, hm9⟩ : ∃ m9, 9 - j = m9 + 1 := ⟨8 - j, by omega⟩
    have HM9 := hid hm9
    have he := HE.out
    rw [hm9, cntD_succ] at he
    clear hm9
    have c0 : wr.cell? ⟨g, 0, none⟩ = some (.slice a B.length cap) := cell_of_row _ _ 0 _ _ _ HRJ.out.box
    have c1 : wr.cell? ⟨g, 1, none⟩ = some (.int .i64 ((k + j : Nat) : Int)) := cell_of_row _ _ 1 _ _ _ HRJ.out.box
    by_cases hkl : k + j < B.length
    · rw [if_pos hkl] at he
      obtain ⟨c, hc⟩ : ∃ c, c = B.getD (k + j) 0 := ⟨_, rfl⟩
      rw [← hc] at he
      obtain ⟨b, off, hae, hrow⟩ : ∃ b off, a = some ⟨b, off, none⟩ ∧ ∀ i, i < B.length → wr.cell? ⟨b, off + i, none⟩ = some (.int .u8 (iv (B.getD i 0))) := by
        rcases HRJ.out.row with h0 | ⟨b, off, e, h1⟩
        · omega
        · exact ⟨b, off, e, h1⟩
      subst hae
      have hby := hrow (k + j) hkl
      rw [← hc] at hby
      clear hrow hc
      obtain ⟨m, hm⟩ : ∃ m, m = c.toNat := ⟨_, rfl⟩
      have hm256 : m < 256 := by rw [hm]; exact c.toNat_lt
      rw [← hm] at he
      have hiv : iv c = (m : Int) := by unfold iv; rw [hm]
      rw [hiv] at hby
      clear hm hiv
      have hw1 : IntKind.i64.wrap (m : Int) = (m : Int) := by rw [IntKind.wrap_i64]; omega
      have a1 : ¬ (B.length : Int) ≤ ((k + j : Nat) : Int) := by omega
      have a2 : ((k + j : Nat) : Int) < (B.length : Int) := by omega
      have a3 : (0 : Int) ≤ ((k + j : Nat) : Int) := by omega
      have HKL := hid hkl
      have HE2 := hid he
      clear hkl he
      obtain ⟨kj, hkj⟩ : ∃ kj, kj = k + j := ⟨_, rfl⟩
      rw [← hkj] at c1 a1 a2 a3 hby
      have HKJ := hid hkj
      obtain ⟨un, hun⟩ : ∃ un, un = 128 ^ j := ⟨_, rfl⟩
      rw [← hun]
      have HUN := hid hun
      clear hkj hun
      go_upto_region 5 with fail
      go_quiet (fail)
      have HD := hid (drew_below wr nq)
      have HRV := hid (HRJ.out.low' HD.out)
      have HGV := hid (HGB.out.trans (Gb.of HD.out))
      have hby := (HD.out.cell (p := ⟨b, off + kj, none⟩) (cell_lt hby)).trans hby
      have c0 := (HD.out.cell (p := ⟨g, 0, none⟩) (lt_blk HRJ.out.box)).trans c0
      have c1 := (HD.out.cell (p := ⟨g, 1, none⟩) (lt_blk HRJ.out.box)).trans c1
      generalize wr.drewN nq = V at *
      go_upto_region 8 with fail
      go_quiet (fail)
      have HD := hid (drew_below V nq)
      have HRV := hid (HRV.out.low' HD.out)
      have HGV := hid (HGV.out.trans (Gb.of HD.out))
      generalize V.drewN nq = U at *
      clear c0 c1 hby HRJ HGB HD
      have c1 : U.cell? ⟨g, 1, none⟩ = some (.int .i64 (kj : Int)) := by rw [HKJ.out]; exact cell_of_row _ _ 1 _ _ _ HRV.out.box
      have f1 : U.frozen? ⟨g, 1, none⟩ = false := frz_row HRV.out.box 1
      have w2 : IntKind.i64.wrap ((kj : Int) + 1) = ((kj + 1 : Nat) : Int) := by rw [IntKind.wrap_i64]; omega
      have HG2 := hid (gb_set HRV.out.box 1 (.int .i64 ((kj : Int) + 1)))
      have HB2 := hid (show (U.setCell ⟨g, 1, none⟩ (.int .i64 ((kj : Int) + 1))).heap[g]? = some (.cells #[.slice (some ⟨b, off, none⟩) B.length cap, .int .i64 ((k + j + 1 : Nat) : Int), .int .i64 ((0 : Nat) : Int), .int .i64 ((0 : Nat) : Int)] 73 (0, 0)) from by
        rw [setCell_eq_setRow _ _ _ _ _ _ _ HRV.out.box, setRow_heap _ _ _ _ _ _ HRV.out.box, HKJ.out]; rfl)
      have HR3 := hid (HRV.out.go HG2.out HB2.out (by have := HKL.out; omega))
      have HG3 := hid (HGV.out.trans HG2.out)
      go_upto_region 10 with fail
      generalize U.setCell ⟨g, 1, none⟩ (.int .i64 ((kj : Int) + 1)) = Y at *
      clear c1 f1 HRV HGV HG2 HB2 w2
      have hjb := HKL.out
      obtain ⟨kn, hkn⟩ : ∃ kn, kn = k + j + 1 := ⟨_, rfl⟩
      have hkb : kn ≤ 140737488355328 := by omega
      have hkk : k ≤ kn := by omega
      rw [← hkn] at HR3
      have HKN := hid hkn
      have c1 : Y.cell? ⟨g, 1, none⟩ = some (.int .i64 (kn : Int)) := cell_of_row _ _ 1 _ _ _ HR3.out.box
      have c2 : Y.cell? ⟨g, 2, none⟩ = some (.int .i64 0) := cell_of_row _ _ 2 _ _ _ HR3.out.box
      clear hjb
      by_cases h127 : 127 < m
      · have he := HE2.out
        rw [if_pos h127] at he
        have b1 : (128 : Int) ≤ (m : Int) := by omega
        have b2 : ¬ (m : Int) < 128 := by omega
        by_cases h8 : j = 8
        · have e9 : ((kn : Int) - (k : Int) == 9) = true := by simp; omega
          have HE3 := hid (show res = .error (202, k) from by rw [← he, show m9 = 0 by have := HM9.out; omega]; rfl)
          clear hkn he h127 h8
          have HFA := hid (dfail_any HR3.out 202 k)
          go_wp2_with fail
          refine HFA.out.mono ?_
          rintro e w2 ⟨rfl, h1, h2⟩
          have HR4 := hid h1
          have HG4 := hid (HG3.out.trans h2)
          clear h1 h2 HFA
          go_wp2_with fail
          go_ret
          rw [HE3.out]
          exact ⟨_, _, rfl, rfl, by decide, HR4.out, HG4.out⟩
        · have e9 : ((kn : Int) - (k : Int) == 9) = false := by simp; omega
          have hN := HN.out
          have hp := pow128 (j := j) hj
          rw [← HUN.out] at hN hp
          have hp1 : 128 ^ (j + 1) = un * 128 := by rw [HUN.out]; exact Nat.pow_succ ..
          have hmm : m % 128 * un ≤ 127 * un := Nat.mul_le_mul_right _ (by omega)
          obtain ⟨pr, hpr⟩ : ∃ pr, pr = m % 128 * un := ⟨_, rfl⟩
          have HN3 := hid (show N + pr < 128 ^ (j + 1) by omega)
          have HP1 := hid hp1
          have HPR := hid hpr
          have HE3 := hid (show cntD B k lo hi (9 - (j + 1)) (j + 1) (k + (j + 1)) (N + pr) = res from by
            rw [← he, hpr, HUN.out, show 9 - (j + 1) = m9 by have := HM9.out; omega, show m % 128 = m - 128 by omega]; rfl)
          clear hkn he h127
          have hpr2 : pr ≤ 127 * un := by rw [hpr]; exact hmm
          have hlt2 : N + pr < 9223372036854775808 := by clear hmm hpr; omega
          have q1 : wrap64 ((m : Int) % 128 * (un : Int)) = (pr : Int) := by
            rw [show (m : Int) % 128 * (un : Int) = ((m % 128 * un : Nat) : Int) by simp, w64_nat (by omega), hpr]
          have q2 : wrap64 ((N : Int) + (pr : Int)) = ((N + pr : Nat) : Int) := by
            rw [show (N : Int) + (pr : Int) = ((N + pr : Nat) : Int) by simp, w64_nat hlt2]
          have q3 : wrap64 ((un : Int) * 128) = ((128 ^ (j + 1) : Nat) : Int) := by
            rw [hp1, show (un : Int) * 128 = ((un * 128 : Nat) : Int) by simp, w64_nat (by
              have := pow128 (j := j) hj
              have h7 : 128 ^ (j + 1) ≤ 128 ^ 8 := Nat.pow_le_pow_right (by decide) (by omega)
              rw [hp1] at h7
              omega)]
          clear hlt2 hpr2 hp1 hmm hpr hN hp
          go_wp2_with fail
          exact ⟨⟨N + pr, j + 1, by omega, by first | rfl | go_num, by first | rfl | go_num, HN3, by rw [show k + (j + 1) = kn by have := HKN.out; omega]; exact HR3, HG3, HE3⟩, by rw [q3, lgm_pow, HUN.out, lgm_pow]; omega⟩
      · have he := HE2.out
        rw [if_neg h127] at he
        have b1 : ¬ (128 : Int) ≤ (m : Int) := by omega
        have b2 : (m : Int) < 128 := by omega
        have hN := HN.out
        have hp := pow128 (j := j) hj
        rw [← HUN.out] at hN hp
        have hmm : m * un ≤ 127 * un := Nat.mul_le_mul_right _ (by omega)
        obtain ⟨pr, hpr⟩ : ∃ pr, pr = m * un := ⟨_, rfl⟩
        have hpr2 : pr ≤ 127 * un := by rw [hpr]; exact hmm
        have hlt2 : N + pr < 9223372036854775808 := by clear hmm hpr; omega
        have q1 : wrap64 ((m : Int) % 128 * (un : Int)) = (pr : Int) := by
          rw [show (m : Int) % 128 * (un : Int) = ((m * un : Nat) : Int) by rw [show (m : Int) % 128 = (m : Int) by omega]; simp, ← hpr, w64_nat (by omega)]
        obtain ⟨N2, hN2⟩ : ∃ N2, N2 = N + pr := ⟨_, rfl⟩
        have q2 : wrap64 ((N : Int) + (pr : Int)) = (N2 : Int) := by
          rw [show (N : Int) + (pr : Int) = ((N + pr : Nat) : Int) by simp, w64_nat hlt2, hN2]
        have HE5 := hid (show (if m = 0 ∧ 0 < j then .error (202, k) else if N2 < lo ∨ hi < N2 then .error (205, k) else .ok (N2, k + j + 1) : DR Nat) = res from by
          rw [← he, hN2, hpr, HUN.out])
        clear hlt2 hpr2 hmm hpr hN hp he h127 hkn hN2
        by_cases h8 : j = 8
        · have e9 : ((kn : Int) - (k : Int) == 9) = true := by have := HKN.out; simp; omega
          go_upto_region 14 with fail
          clear h8 e9
          rw [q2]
          by_cases hm0 : m = 0
          · by_cases hj0 : 0 < j
            · have HE3 := hid (show res = .error (202, k) from by rw [← HE5.out, if_pos ⟨hm0, hj0⟩])
              have e1 : (1 : Int) < (kn : Int) - (k : Int) := by have := HKN.out; omega
              subst hm0
              clear hj0
              have HFA := hid (dfail_any HR3.out 202 k)
              go_wp2_with fail
              refine HFA.out.mono ?_
              rintro e w2 ⟨rfl, h1, h2⟩
              have HR4 := hid h1
              have HG4 := hid (HG3.out.trans h2)
              clear h1 h2 HFA
              go_wp2_with fail
              go_ret
              rw [HE3.out]
              exact ⟨_, _, rfl, rfl, by decide, HR4.out, HG4.out⟩
            · have HE4 := hid (show (if N2 < lo ∨ hi < N2 then .error (205, k) else .ok (N2, k + j + 1) : DR Nat) = res from by rw [← HE5.out, if_neg (show ¬ (m = 0 ∧ 0 < j) from fun h => hj0 h.2)])
              have e1 : ¬ (1 : Int) < (kn : Int) - (k : Int) := by have := HKN.out; omega
              subst hm0
              clear hj0
              have he := HE4.out
              by_cases hl : N2 < lo
              · have HE3 := hid (show res = .error (205, k) from by rw [← he, if_pos (Or.inl hl)])
                have l1 : (N2 : Int) < (lo : Int) := by omega
                clear he hl
                have HFA := hid (dfail_any HR3.out 205 k)
                go_wp2_with fail
                refine HFA.out.mono ?_
                rintro e w2 ⟨rfl, h1, h2⟩
                have HR4 := hid h1
                have HG4 := hid (HG3.out.trans h2)
                clear h1 h2 HFA
                go_wp2_with fail
                go_ret
                rw [HE3.out]
                exact ⟨_, _, rfl, rfl, by decide, HR4.out, HG4.out⟩
              · have l1 : ¬ (N2 : Int) < (lo : Int) := by omega
                by_cases hh : hi < N2
                · have HE3 := hid (show res = .error (205, k) from by rw [← he, if_pos (Or.inr hh)])
                  have l2 : (hi : Int) < (N2 : Int) := by omega
                  clear he hl hh
                  have HFA := hid (dfail_any HR3.out 205 k)
                  go_wp2_with fail
                  refine HFA.out.mono ?_
                  rintro e w2 ⟨rfl, h1, h2⟩
                  have HR4 := hid h1
                  have HG4 := hid (HG3.out.trans h2)
                  clear h1 h2 HFA
                  go_wp2_with fail
                  go_ret
                  rw [HE3.out]
                  exact ⟨_, _, rfl, rfl, by decide, HR4.out, HG4.out⟩
                · have l2 : ¬ (hi : Int) < (N2 : Int) := by omega
                  have HE3 := hid (show res = .ok (N2, kn) from by rw [← he, if_neg (show ¬ (N2 < lo ∨ hi < N2) by omega), HKN.out])
                  clear he hl hh
                  go_wp2_with fail
                  go_ret
                  rw [HE3.out]
                  exact ⟨_, rfl, rfl, HR3.out, HG3.out⟩
          · have HE4 := hid (show (if N2 < lo ∨ hi < N2 then .error (205, k) else .ok (N2, k + j + 1) : DR Nat) = res from by rw [← HE5.out, if_neg (show ¬ (m = 0 ∧ 0 < j) from fun h => hm0 h.1)])
            have e0 : ((m : Int) == 0) = false := by simp; omega
            have e00 : (m == 0) = false := by simp; omega
            have e000 : ¬ (m : Int) = 0 := by omega
            clear hm0
            have he := HE4.out
            by_cases hl : N2 < lo
            · have HE3 := hid (show res = .error (205, k) from by rw [← he, if_pos (Or.inl hl)])
              have l1 : (N2 : Int) < (lo : Int) := by omega
              clear he hl
              have HFA := hid (dfail_any HR3.out 205 k)
              go_wp2_with fail
              refine HFA.out.mono ?_
              rintro e w2 ⟨rfl, h1, h2⟩
              have HR4 := hid h1
              have HG4 := hid (HG3.out.trans h2)
              clear h1 h2 HFA
              go_wp2_with fail
              go_ret
              rw [HE3.out]
              exact ⟨_, _, rfl, rfl, by decide, HR4.out, HG4.out⟩
            · have l1 : ¬ (N2 : Int) < (lo : Int) := by omega
              by_cases hh : hi < N2
              · have HE3 := hid (show res = .error (205, k) from by rw [← he, if_pos (Or.inr hh)])
                have l2 : (hi : Int) < (N2 : Int) := by omega
                clear he hl hh
                have HFA := hid (dfail_any HR3.out 205 k)
                go_wp2_with fail
                refine HFA.out.mono ?_
                rintro e w2 ⟨rfl, h1, h2⟩
                have HR4 := hid h1
                have HG4 := hid (HG3.out.trans h2)
                clear h1 h2 HFA
                go_wp2_with fail
                go_ret
                rw [HE3.out]
                exact ⟨_, _, rfl, rfl, by decide, HR4.out, HG4.out⟩
              · have l2 : ¬ (hi : Int) < (N2 : Int) := by omega
                have HE3 := hid (show res = .ok (N2, kn) from by rw [← he, if_neg (show ¬ (N2 < lo ∨ hi < N2) by omega), HKN.out])
                clear he hl hh
                go_wp2_with fail
                go_ret
                rw [HE3.out]
                exact ⟨_, rfl, rfl, HR3.out, HG3.out⟩
        · have e9 : ((kn : Int) - (k : Int) == 9) = false := by have := HKN.out; simp; omega
          go_upto_region 14 with fail
          clear h8 e9
          rw [q2]
          by_cases hm0 : m = 0
          · by_cases hj0 : 0 < j
            · have HE3 := hid (show res = .error (202, k) from by rw [← HE5.out, if_pos ⟨hm0, hj0⟩])
              have e1 : (1 : Int) < (kn : Int) - (k : Int) := by have := HKN.out; omega
              subst hm0
              clear hj0
              have HFA := hid (dfail_any HR3.out 202 k)
              go_wp2_with fail
              refine HFA.out.mono ?_
              rintro e w2 ⟨rfl, h1, h2⟩
              have HR4 := hid h1
              have HG4 := hid (HG3.out.trans h2)
              clear h1 h2 HFA
              go_wp2_with fail
              go_ret
              rw [HE3.out]
              exact ⟨_, _, rfl, rfl, by decide, HR4.out, HG4.out⟩
            · have HE4 := hid (show (if N2 < lo ∨ hi < N2 then .error (205, k) else .ok (N2, k + j + 1) : DR Nat) = res from by rw [← HE5.out, if_neg (show ¬ (m = 0 ∧ 0 < j) from fun h => hj0 h.2)])
              have e1 : ¬ (1 : Int) < (kn : Int) - (k : Int) := by have := HKN.out; omega
              subst hm0
              clear hj0
              have he := HE4.out
              by_cases hl : N2 < lo
              · have HE3 := hid (show res = .error (205, k) from by rw [← he, if_pos (Or.inl hl)])
                have l1 : (N2 : Int) < (lo : Int) := by omega
                clear he hl
                have HFA := hid (dfail_any HR3.out 205 k)
                go_wp2_with fail
                refine HFA.out.mono ?_
                rintro e w2 ⟨rfl, h1, h2⟩
                have HR4 := hid h1
                have HG4 := hid (HG3.out.trans h2)
                clear h1 h2 HFA
                go_wp2_with fail
                go_ret
                rw [HE3.out]
                exact ⟨_, _, rfl, rfl, by decide, HR4.out, HG4.out⟩
              · have l1 : ¬ (N2 : Int) < (lo : Int) := by omega
                by_cases hh : hi < N2
                · have HE3 := hid (show res = .error (205, k) from by rw [← he, if_pos (Or.inr hh)])
                  have l2 : (hi : Int) < (N2 : Int) := by omega
                  clear he hl hh
                  have HFA := hid (dfail_any HR3.out 205 k)
                  go_wp2_with fail
                  refine HFA.out.mono ?_
                  rintro e w2 ⟨rfl, h1, h2⟩
                  have HR4 := hid h1
                  have HG4 := hid (HG3.out.trans h2)
                  clear h1 h2 HFA
                  go_wp2_with fail
                  go_ret
                  rw [HE3.out]
                  exact ⟨_, _, rfl, rfl, by decide, HR4.out, HG4.out⟩
                · have l2 : ¬ (hi : Int) < (N2 : Int) := by omega
                  have HE3 := hid (show res = .ok (N2, kn) from by rw [← he, if_neg (show ¬ (N2 < lo ∨ hi < N2) by omega), HKN.out])
                  clear he hl hh
                  go_wp2_with fail
                  go_ret
                  rw [HE3.out]
                  exact ⟨_, rfl, rfl, HR3.out, HG3.out⟩
          · have HE4 := hid (show (if N2 < lo ∨ hi < N2 then .error (205, k) else .ok (N2, k + j + 1) : DR Nat) = res from by rw [← HE5.out, if_neg (show ¬ (m = 0 ∧ 0 < j) from fun h => hm0 h.1)])
            have e0 : ((m : Int) == 0) = false := by simp; omega
            have e00 : (m == 0) = false := by simp; omega
            have e000 : ¬ (m : Int) = 0 := by omega
            clear hm0
            have he := HE4.out
            by_cases hl : N2 < lo
            · have HE3 := hid (show res = .error (205, k) from by rw [← he, if_pos (Or.inl hl)])
              have l1 : (N2 : Int) < (lo : Int) := by omega
              clear he hl
              have HFA := hid (dfail_any HR3.out 205 k)
              go_wp2_with fail
              refine HFA.out.mono ?_
              rintro e w2 ⟨rfl, h1, h2⟩
              have HR4 := hid h1
              have HG4 := hid (HG3.out.trans h2)
              clear h1 h2 HFA
              go_wp2_with fail
              go_ret
              rw [HE3.out]
              exact ⟨_, _, rfl, rfl, by decide, HR4.out, HG4.out⟩
            · have l1 : ¬ (N2 : Int) < (lo : Int) := by omega
              by_cases hh : hi < N2
              · have HE3 := hid (show res = .error (205, k) from by rw [← he, if_pos (Or.inr hh)])
                have l2 : (hi : Int) < (N2 : Int) := by omega
                clear he hl hh
                have HFA := hid (dfail_any HR3.out 205 k)
                go_wp2_with fail
                refine HFA.out.mono ?_
                rintro e w2 ⟨rfl, h1, h2⟩
                have HR4 := hid h1
                have HG4 := hid (HG3.out.trans h2)
                clear h1 h2 HFA
                go_wp2_with fail
                go_ret
                rw [HE3.out]
                exact ⟨_, _, rfl, rfl, by decide, HR4.out, HG4.out⟩
              · have l2 : ¬ (hi : Int) < (N2 : Int) := by omega
                have HE3 := hid (show res = .ok (N2, kn) from by rw [← he, if_neg (show ¬ (N2 < lo ∨ hi < N2) by omega), HKN.out])
                clear he hl hh
                go_wp2_with fail
                go_ret
                rw [HE3.out]
                exact ⟨_, rfl, rfl, HR3.out, HG3.out⟩
    · rw [if_neg hkl] at he
      have hkb : k + j = B.length := by have := HRJ.out.le; omega
      have HE3 := hid (show res = .error (201, B.length) from by rw [← he, hkb])
      have a1 : (B.length : Int) ≤ ((k + j : Nat) : Int) := by omega
      obtain ⟨kj, hkj⟩ : ∃ kj, kj = k + j := ⟨_, rfl⟩
      rw [← hkj] at c1 a1
      have HKJ := hid hkj
      clear hkl he hkb hkj
      go_upto_region 5 with fail
      go_quiet (fail)
      have HD := hid (drew_below wr nq)
      have HR3 := hid (HRJ.out.low' HD.out)
      have HG3 := hid (HGB.out.trans (Gb.of HD.out))
      have c0 := (HD.out.cell (p := ⟨g, 0, none⟩) (lt_blk HRJ.out.box)).trans c0
      generalize wr.drewN nq = V at *
      clear c1
      have HFA := hid (dfail_any HR3.out 201 B.length)
      go_wp2_with fail
      refine HFA.out.mono ?_
      rintro e w2 ⟨rfl, h1, h2⟩
      have HR4 := hid h1
      have HG4 := hid (HG3.out.trans h2)
      clear h1 h2 HFA
      go_wp2_with fail
      go_ret
      rw [HE3.out]
      exact ⟨_, _, rfl, rfl, by decide, HR4.out, HG4.out⟩
end Go.Proofs.Ytnclpdgbjefpmaa.L
