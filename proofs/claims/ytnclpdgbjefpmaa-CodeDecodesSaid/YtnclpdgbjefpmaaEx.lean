import Derived.Laws.Bits128
import Derived.Test.YtnclpdgbjefpmaaMgAD
namespace Go.Proofs.Ytnclpdgbjefpmaa.L
open Go.RowKit
set_option linter.unusedVariables false
set_option linter.unusedSimpArgs false
theorem i64_or_nat (a b : Nat) (ha : a < 9223372036854775808) (hb : b < 9223372036854775808) : bits .or .i64 (a : Int) (b : Int) = ((a ||| b : Nat) : Int) := by
  have hx : a ||| b < 2 ^ 63 := Nat.or_lt_two_pow (by omega) (by omega)
  have h1 : (BitVec.ofInt 64 (a : Int)).toNat = a := by
    rw [BitVec.ofInt_natCast, BitVec.toNat_ofNat]; exact Nat.mod_eq_of_lt (by omega)
  have h2 : (BitVec.ofInt 64 (b : Int)).toNat = b := by
    rw [BitVec.ofInt_natCast, BitVec.toNat_ofNat]; exact Nat.mod_eq_of_lt (by omega)
  show IntKind.i64.wrap ((BitVec.ofInt 64 (a : Int) ||| BitVec.ofInt 64 (b : Int)).toNat : Int) = _
  rw [BitVec.toNat_or, h1, h2, IntKind.wrap_i64]
  omega
theorem or_app (n v j : Nat) (hn : n < 128 ^ j) : n ||| (v * 128 ^ j) = n + v * 128 ^ j := by
  have e : 128 ^ j = 2 ^ (7 * j) := by rw [Nat.pow_mul]
  rw [e] at hn ⊢
  rw [Nat.or_comm, Nat.mul_comm, ← Nat.two_pow_add_eq_or_of_lt hn]
  omega
theorem pow128 {j : Nat} (h : j ≤ 8) : 128 ^ j ≤ 72057594037927936 := by
  have : 128 ^ j ≤ 128 ^ 8 := Nat.pow_le_pow_right (by decide) h
  simpa using this
theorem or_step (N m j N2 : Nat) (hj : j ≤ 8) (hN : N < 128 ^ j) (h2 : N2 = N + m % 128 * 128 ^ j) : bits .or .i64 (N : Int) (wrap64 ((m : Int) % 128 * 2 ^ (7 * j))) = (N2 : Int) := by
  have hp := pow128 hj
  have hm : m % 128 * 128 ^ j ≤ 127 * 128 ^ j := Nat.mul_le_mul_right _ (by omega)
  have e : (m : Int) % 128 * 2 ^ (7 * j) = ((m % 128 * 128 ^ j : Nat) : Int) := by
    rw [show 128 ^ j = 2 ^ (7 * j) by rw [Nat.pow_mul]]
    simp
  have hw : ∀ x : Int, wrap64 x = IntKind.i64.wrap x := fun x => by rw [IntKind.wrap_i64]; unfold wrap64; omega
  rw [e, hw, show IntKind.i64.wrap ((m % 128 * 128 ^ j : Nat) : Int) = ((m % 128 * 128 ^ j : Nat) : Int) by rw [IntKind.wrap_i64]; omega, i64_or_nat _ _ (by omega) (by omega), or_app _ _ _ hN, h2]
theorem or_zero (N j : Nat) (hj : j ≤ 8) (hN : N < 128 ^ j) : bits .or .i64 (N : Int) (wrap64 0) = (N : Int) := by
  have := or_step N 0 j N hj hN (by simp)
  simpa using this
theorem cntD_succ (B : List UInt8) (f lo hi m j k n : Nat) : cntD B f lo hi (m + 1) j k n = if k < B.length then
      (if 127 < (B.getD k 0).toNat then cntD B f lo hi m (j + 1) (k + 1) (n + ((B.getD k 0).toNat - 128) * 128 ^ j)
       else if (B.getD k 0).toNat = 0 ∧ 0 < j then .error (202, f)
       else if n + (B.getD k 0).toNat * 128 ^ j < lo ∨ hi < n + (B.getD k 0).toNat * 128 ^ j then .error (205, f)
       else .ok (n + (B.getD k 0).toNat * 128 ^ j, k + 1))
    else .error (201, k) := by rw [cntD]
set_option maxHeartbeats 1000000 in
set_option maxRecDepth 100000 in
theorem rcount_any {g : Nat} {a : Option Addr} {cap : Nat} {B : List UInt8} {W : World} {k room : Nat} (h : Rm g a cap B W k room) (lo hi : Nat) (hhi : hi < 9223372036854775808) (hlo : lo < 9223372036854775808) :
    Calls Try.prog 73 #[.pointer (some ⟨g, 0, none⟩), .int .i64 (lo : Int), .int .i64 (hi : Int)] W (Ro (α := Nat) g a cap B (fun _ => room) (fun (n : Nat) v _ => v = .int .i64 (n : Int)) (cntD B k lo hi 9 0 k 0) W) := by
  have HR := hid h
  have hlen := h.len
  have hle := h.le
  obtain ⟨res, hres⟩ : ∃ r, r = cntD B k lo hi 9 0 k 0 := ⟨_, rfl⟩
  rw [← hres]
  have HRES := hid hres
  have c1 : W.cell? ⟨g, 1, none⟩ = some (.int .i64 (k : Int)) := cell_of_row _ _ 1 _ _ _ h.box
  clear h hres
  have HG := hid (fun c w => giveup_any c k w)
  have HWI := hid (fun n lo hi W => within_any n lo hi W)
  go_enter Try.func73, Try.ntmps73
  go_wp2_with fail
  go_loopw [8, 15] (fun nv i wr => ∃ (N j : Nat), j ≤ 9 ∧ nv = .int .i64 (N : Int) ∧ i = .int .i64 (j : Int) ∧ Hid (N < 128 ^ j) ∧ Hid (Rm g a cap B wr (k + j) room) ∧ Hid (Gb g W wr) ∧ Hid (cntD B k lo hi (9 - j) j (k + j) N = res)) (fun _ i _ => 9 - (intOf i).toNat)
  case atStart => exact ⟨0, 0, by omega, rfl, rfl, hid (by decide), HR, hid (Gb.refl _ _), hid HRES.out.symm⟩
  case round =>
    obtain ⟨N, j, hj, rfl, rfl, HN, HRJ, HGB, HE⟩ := hrel
    by_cases hlt : j < 9
    · have g1 : (j : Int) < 9 := by omega
      obtain ⟨m9, hm9⟩ : ∃ m9, 9 - j = m9 + 1 := ⟨8 - j, by omega⟩
      have HM9 := hid hm9
      have he := HE.out
      rw [hm9, cntD_succ] at he
      have HT := hid (take_any HRJ.out)
      unfold tkP at HT
      clear hm9
      by_cases hkl : k + j < B.length
      · rw [if_pos hkl] at HT
        rw [if_pos hkl] at he
        obtain ⟨c, hc⟩ : ∃ c, c = B.getD (k + j) 0 := ⟨_, rfl⟩
        rw [← hc] at HT he
        obtain ⟨m, hm⟩ : ∃ m, m = c.toNat := ⟨_, rfl⟩
        have hm256 : m < 256 := by rw [hm]; exact c.toNat_lt
        rw [← hm] at he
        have HIV := hid (show iv c = (m : Int) from by unfold iv; rw [hm])
        by_cases hb : 127 < m
        · rw [if_pos hb] at he
          obtain ⟨N2, hN2⟩ : ∃ N2, N2 = N + (m - 128) * 128 ^ j := ⟨_, rfl⟩
          rw [← hN2] at he
          have hN := HN.out
          have hp := pow128 (j := j) (by omega)
          have hp1 : 128 ^ (j + 1) = 128 ^ j * 128 := Nat.pow_succ ..
          have hmm : (m - 128) * 128 ^ j ≤ 127 * 128 ^ j := Nat.mul_le_mul_right _ (by omega)
          have HN2 := hid hN2
          have HN3 := hid (show N2 < 128 ^ (j + 1) by omega)
          have e1 : bits .and .i64 (m : Int) 127 = ((m % 128 : Nat) : Int) := by rw [i64_and127]; omega
          have e2 : bits .or .i64 (N : Int) (wrap64 ((m : Int) % 128 * 2 ^ (7 * j))) = (N2 : Int) := or_step N m j N2 (by omega) HN.out (by rw [hN2]; congr 2; omega)
          have a1 : (127 : Int) < (m : Int) := by omega
          have HE2 := hid he
          clear hc hm he hkl hN2 hN hp hp1 hmm hb
          go_wp2_with fail
          refine HT.out.mono ?_
          rintro e w1 ⟨v, rfl, rfl, h1, h2⟩
          rw [HIV.out]
          have HR1 := hid h1
          have HG1 := hid (HGB.out.trans h2)
          clear h1 h2
          go_wp2_with fail
          exact ⟨⟨N2, j + 1, by omega, rfl, by go_num, HN3, HR1, HG1, hid (by rw [← HE2.out, show 9 - (j + 1) = m9 by have := HM9.out; omega]; rfl)⟩, by simp [intOf]; omega⟩
        · rw [if_neg hb] at he
          by_cases h0 : m = 0 ∧ 0 < j
          · rw [if_pos h0] at he
            have HE3 := hid he.symm
            obtain ⟨rfl, hj0⟩ := h0
            have e1 : bits .and .i64 (0 : Int) 127 = 0 := by rw [i64_and127]; rfl
            have e2 : bits .or .i64 (N : Int) (wrap64 0) = (N : Int) := or_zero N j (by omega) HN.out
            have a1 : (0 : Int) < (j : Int) := by omega
            clear hc hm he hkl hb hj0
            go_wp2_with fail
            refine HT.out.mono ?_
            rintro e w1 ⟨v, rfl, rfl, h1, h2⟩
            rw [HIV.out]
            have HR1 := hid h1
            have HG1 := hid (HGB.out.trans h2)
            clear h1 h2
            go_wp2_with fail
            refine (HG.out 202 w1).mono ?_
            rintro e w2 ⟨NN, rfl, h3, h4⟩
            have HF := hid h3
            have HGG := hid (HG1.out.trans (Gb.of h4))
            clear h3 h4
            go_wp2_with fail
            refine ⟨rfl, ?_⟩
            rw [HE3.out]
            exact ⟨NN, rfl, HF.out, HGG.out⟩
          · rw [if_neg h0] at he
            have HE2 := hid he
            obtain ⟨N2, hN2⟩ : ∃ N2, N2 = N + m * 128 ^ j := ⟨_, rfl⟩
            have HN2 := hid hN2
            have e2' := or_step N m j N2 (by omega) HN.out (by rw [hN2]; congr 2; omega)
            have a2 : ¬ (127 : Int) < (m : Int) := by omega
            by_cases hm0 : m = 0
            · subst hm0
              obtain rfl : j = 0 := by omega
              have hN0 : N = 0 := by have := HN.out; simpa using this
              have e1 : bits .and .i64 (0 : Int) 127 = 0 := by rw [i64_and127]; rfl
              have e2 : bits .or .i64 0 0 = (N2 : Int) := by rw [show bits .or .i64 0 0 = 0 from i64_or_nat 0 0 (by decide) (by decide), hN2, hN0]; simp
              clear hc hm he hkl hb e2' h0 hN2
              go_wp2_with fail
              refine HT.out.mono ?_
              rintro e w1 ⟨v, rfl, rfl, h1, h2⟩
              rw [HIV.out]
              have HR1 := hid h1
              have HG1 := hid (HGB.out.trans h2)
              clear h1 h2
              go_wp2_with fail
              refine (HWI.out (N2 : Int) (lo : Int) (hi : Int) w1).mono ?_
              rintro e w2 ⟨rfl, rfl⟩
              by_cases hin : N2 < lo ∨ hi < N2
              · have e5 : inR (N2 : Int) (lo : Int) (hi : Int) = false := by unfold inR; simp; omega
                have HE3 := hid (show res = .error (205, k) from by rw [← HE2.out, ← HN2.out, if_pos hin])
                rw [e5]
                go_wp2_with fail
                refine (HG.out 205 _).mono ?_
                rintro e w2 ⟨NN, rfl, h3, h4⟩
                have HF := hid h3
                have HGG := hid (HG1.out.trans (Gb.of h4))
                clear h3 h4
                go_wp2_with fail
                refine ⟨rfl, ?_⟩
                rw [HE3.out]
                exact ⟨NN, rfl, HF.out, HGG.out⟩
              · have e5 : inR (N2 : Int) (lo : Int) (hi : Int) = true := by unfold inR; simp; omega
                have HE3 := hid (show res = .ok (N2, _) from by rw [← HE2.out, ← HN2.out, if_neg hin])
                rw [e5]
                go_wp2_with fail
                go_ret
                rw [HE3.out]
                exact ⟨_, rfl, rfl, HR1.out, HG1.out⟩
            · have e1 : bits .and .i64 (m : Int) 127 = ((m % 128 : Nat) : Int) := by rw [i64_and127]; omega
              have e2 : bits .or .i64 (N : Int) (wrap64 ((m : Int) % 128 * 2 ^ (7 * j))) = (N2 : Int) := e2'
              have a3 : ((m : Int) == 0) = false := by simp; omega
              clear hc hm he hkl hb e2' h0 hN2
              go_wp2_with fail
              refine HT.out.mono ?_
              rintro e w1 ⟨v, rfl, rfl, h1, h2⟩
              rw [HIV.out]
              have HR1 := hid h1
              have HG1 := hid (HGB.out.trans h2)
              clear h1 h2
              go_wp2_with fail
              refine (HWI.out (N2 : Int) (lo : Int) (hi : Int) w1).mono ?_
              rintro e w2 ⟨rfl, rfl⟩
              by_cases hin : N2 < lo ∨ hi < N2
              · have e5 : inR (N2 : Int) (lo : Int) (hi : Int) = false := by unfold inR; simp; omega
                have HE3 := hid (show res = .error (205, k) from by rw [← HE2.out, ← HN2.out, if_pos hin])
                rw [e5]
                go_wp2_with fail
                refine (HG.out 205 _).mono ?_
                rintro e w2 ⟨NN, rfl, h3, h4⟩
                have HF := hid h3
                have HGG := hid (HG1.out.trans (Gb.of h4))
                clear h3 h4
                go_wp2_with fail
                refine ⟨rfl, ?_⟩
                rw [HE3.out]
                exact ⟨NN, rfl, HF.out, HGG.out⟩
              · have e5 : inR (N2 : Int) (lo : Int) (hi : Int) = true := by unfold inR; simp; omega
                have HE3 := hid (show res = .ok (N2, _) from by rw [← HE2.out, ← HN2.out, if_neg hin])
                rw [e5]
                go_wp2_with fail
                go_ret
                rw [HE3.out]
                exact ⟨_, rfl, rfl, HR1.out, HG1.out⟩
      · rw [if_neg hkl] at HT
        rw [if_neg hkl] at he
        have HE3 := hid he.symm
        clear he hkl
        go_wp2_with fail
        refine HT.out.mono ?_
        rintro e w1 ⟨NN, rfl, h3, h4⟩
        have HF := hid h3
        have HGG := hid (HGB.out.trans h4)
        clear h3 h4
        go_wp2_with fail
        refine ⟨rfl, ?_⟩
        rw [HE3.out]
        exact ⟨NN, rfl, HF.out, HGG.out⟩
    · obtain rfl : j = 9 := by omega
      have HE3 := hid (show res = .error (202, k) from by rw [← HE.out]; rfl)
      go_wp2_with fail
      refine (HG.out 202 _).mono ?_
      rintro e w2 ⟨NN, rfl, h3, h4⟩
      have HF := hid h3
      have HGG := hid (HGB.out.trans (Gb.of h4))
      clear h3 h4
      go_wp2_with fail
      refine ⟨rfl, ?_⟩
      rw [HE3.out]
      exact ⟨NN, rfl, HF.out, HGG.out⟩
end Go.Proofs.Ytnclpdgbjefpmaa.L
