import Derived.Test.YtimmjikpcekffaaGreatDoorMgAO
import Derived.Test.YtimmjikpcekffaaGreatDoorMgAP
import Derived.Test.YtimmjikpcekffaaGreatDoorMgAQ
namespace Go.Proofs.YtimmjikpcekffaaGreatDoor.L
open Go.RowKit
set_option linter.unusedVariables false
set_option linter.unusedSimpArgs false
set_option maxHeartbeats 16000000 in
set_option maxRecDepth 100000 in
theorem tpart_6 (mv ns : Int) (pk : Int) (pn : Bool) (kd tk ts : Int) (ty : ByteArray) (tl rl nu : Int) (xa : Option Addr) (xn xc : Nat) (na : Option Addr) (nn nc : Nat) (ok os : Int) (oy : ByteArray) (ol of : Int) (ky : ByteArray) (sl : Int) (ka : Option Addr) (kn kc : Nat) (tx : List ByteArray) (nm : List Int) (w : World) (k1 : (pk == 1) = false) (k2 : (pk == 2) = false) (k3 : (pk == 3) = false) (k4 : (pk == 4) = false) (k5 : (pk == 5) = false) (hs : ty.size ≤ maxLen) (ho : oy.size ≤ maxLen) (hy : ky.size ≤ maxLen) (hx : xn = tx.length) (hn : nn = nm.length) (rx : RdS w xa tx) (rn : RdI w na nm) (bx : xn ≤ 140737488355328) (bn : nn ≤ 140737488355328) (hz : ∀ k, (tx.getD k ByteArray.empty).size ≤ maxLen) : Calls Tryz.prog 33 #[.agg #[.int .i64 mv, .int .i64 ns], .agg #[.int .i64 pk, .bool pn, .int .i64 kd, .int .i64 tk, .int .i64 ts, .string ty, .int .i64 tl, .int .i64 rl, .int .i64 nu, .slice xa xn xc, .slice na nn nc, .int .i64 ok, .int .i64 os, .string oy, .int .i64 ol, .int .i64 of, .string ky, .int .i64 sl, .slice ka kn kc]] w fun e w' => (∃ b, e = .returned (.bool b) ∧ (b = true ↔ PartP mv ns pk pn kd tk ts ty tl rl nu xa xn xc na nn nc ok os oy ol of ky sl kn tx nm)) ∧ Below w.heap.size w w' := by
  have HXN := hid hx
  have HNN := hid hn
  clear hx hn
  have LX : Below w.heap.size w ((w.alloc (.cells #[.int .i64 mv, .int .i64 ns] 61)).alloc (.cells #[.int .i64 pk, .bool pn, .int .i64 kd, .int .i64 tk, .int .i64 ts, .string ty, .int .i64 tl, .int .i64 rl, .int .i64 nu, .slice xa xn xc, .slice na nn nc, .int .i64 ok, .int .i64 os, .string oy, .int .i64 ol, .int .i64 of, .string ky, .int .i64 sl, .slice ka kn kc] 51)) := (((Below.refl _ w).alloc (by simp) _).alloc (by simp) _)
  have HLX := hid LX
  clear LX
  go_enter Tryz.func33, Tryz.ntmps33
  go_wp2_with fail
  go_ret
  refine ⟨⟨_, rfl, ?_⟩, HLX.out⟩
  unfold PartP
  simp [k1, k2, k3, k4, k5]
end Go.Proofs.YtimmjikpcekffaaGreatDoor.L
namespace Go.Proofs.YtimmjikpcekffaaGreatDoor.L
open Go.RowKit
set_option linter.unusedVariables false
set_option linter.unusedSimpArgs false
theorem tpart_any (mv ns : Int) (pk : Int) (pn : Bool) (kd tk ts : Int) (ty : ByteArray) (tl rl nu : Int) (xa : Option Addr) (xn xc : Nat) (na : Option Addr) (nn nc : Nat) (ok os : Int) (oy : ByteArray) (ol of : Int) (ky : ByteArray) (sl : Int) (ka : Option Addr) (kn kc : Nat) (tx : List ByteArray) (nm : List Int) (w : World) (hs : ty.size ≤ maxLen) (ho : oy.size ≤ maxLen) (hy : ky.size ≤ maxLen) (hx : xn = tx.length) (hn : nn = nm.length) (rx : RdS w xa tx) (rn : RdI w na nm) (bx : xn ≤ 140737488355328) (bn : nn ≤ 140737488355328) (hz : ∀ k, (tx.getD k ByteArray.empty).size ≤ maxLen) : Calls Tryz.prog 33 #[.agg #[.int .i64 mv, .int .i64 ns], .agg #[.int .i64 pk, .bool pn, .int .i64 kd, .int .i64 tk, .int .i64 ts, .string ty, .int .i64 tl, .int .i64 rl, .int .i64 nu, .slice xa xn xc, .slice na nn nc, .int .i64 ok, .int .i64 os, .string oy, .int .i64 ol, .int .i64 of, .string ky, .int .i64 sl, .slice ka kn kc]] w fun e w' => (∃ b, e = .returned (.bool b) ∧ (b = true ↔ PartP mv ns pk pn kd tk ts ty tl rl nu xa xn xc na nn nc ok os oy ol of ky sl kn tx nm)) ∧ Below w.heap.size w w' := by
  cases k1 : (pk == 1)
  · cases k2 : (pk == 2)
    · cases k3 : (pk == 3)
      · cases k4 : (pk == 4)
        · cases k5 : (pk == 5)
          · exact tpart_6 mv ns pk pn kd tk ts ty tl rl nu xa xn xc na nn nc ok os oy ol of ky sl ka kn kc tx nm w k1 k2 k3 k4 k5 hs ho hy hx hn rx rn bx bn hz
          · exact tpart_5 mv ns pk pn kd tk ts ty tl rl nu xa xn xc na nn nc ok os oy ol of ky sl ka kn kc tx nm w k1 k2 k3 k4 k5 hs ho hy hx hn rx rn bx bn hz
        · exact tpart_4 mv ns pk pn kd tk ts ty tl rl nu xa xn xc na nn nc ok os oy ol of ky sl ka kn kc tx nm w k1 k2 k3 k4 hs ho hy hx hn rx rn bx bn hz
      · exact tpart_3 mv ns pk pn kd tk ts ty tl rl nu xa xn xc na nn nc ok os oy ol of ky sl ka kn kc tx nm w k1 k2 k3 hs ho hy hx hn rx rn bx bn hz
    · exact tpart_2 mv ns pk pn kd tk ts ty tl rl nu xa xn xc na nn nc ok os oy ol of ky sl ka kn kc tx nm w k1 k2 hs ho hy hx hn rx rn bx bn hz
  · exact tpart_1 mv ns pk pn kd tk ts ty tl rl nu xa xn xc na nn nc ok os oy ol of ky sl ka kn kc tx nm w k1 hs ho hy hx hn rx rn bx bn hz
end Go.Proofs.YtimmjikpcekffaaGreatDoor.L
namespace Go.Proofs.YtimmjikpcekffaaGreatDoor.L
open Go.RowKit
set_option linter.unusedVariables false
set_option linter.unusedSimpArgs false
/-- The lists of a plan's selectors. -/
def PS (w : World) (a : Option Addr) (S : List (List Pp)) : Prop := S.length = 0 ∨ ∃ b off, a = some ⟨b, off, none⟩ ∧ b < w.heap.size ∧ ∀ j, j < S.length → ∃ la lc, w.cell? ⟨b, off + j, none⟩ = some (.slice la (S.getD j []).length lc) ∧ PQ w la (S.getD j [])
theorem PS.low {w w' : World} {a : Option Addr} {S : List (List Pp)} (h : PS w a S) (k : Below w.heap.size w w') : PS w' a S := by
  rcases h with h | ⟨b, off, rfl, h2, h3⟩
  · exact Or.inl h
  · refine Or.inr ⟨b, off, rfl, Nat.lt_of_lt_of_le h2 k.size, fun j hj => ?_⟩
    obtain ⟨la, lc, c, r⟩ := h3 j hj
    exact ⟨la, lc, (k.cell (p := ⟨b, off + j, none⟩) h2).trans c, r.low k⟩
/-- The measure of the main list and the first k selectors. -/
def meS (M : List Pp) (S : List (List Pp)) : Nat → Nat
  | 0 => meL M
  | k + 1 => meS M S k + meL (S.getD k [])
theorem meS_le (M : List Pp) (S : List (List Pp)) {j k : Nat} (h : j ≤ k) : meS M S j ≤ meS M S k := by
  induction k with
  | zero => have : j = 0 := by omega
            subst this; exact Nat.le_refl _
  | succ k ih =>
    by_cases e : j = k + 1
    · subst e; exact Nat.le_refl _
    · exact Nat.le_trans (ih (by omega)) (Nat.le_add_right _ _)
theorem meL_ge (T : List Pp) : T.length ≤ meL T := meA_le T (Nat.zero_le T.length)
set_option maxHeartbeats 16000000 in
set_option maxRecDepth 100000 in
theorem nfits_any (ma sa : Option Addr) (M : List Pp) (S : List (List Pp)) (mn sn mc sc : Nat) (hmn : mn = M.length) (hsn : sn = S.length) (w : World) (hM : PQ w ma M) (hS : PS w sa S) (hl : sn ≤ 4611686018427387904) (hB : meS M S S.length ≤ 4611686018427387904) :
    Calls Tryz.prog 11 #[.agg #[.slice ma mn mc, .slice sa sn sc]] w fun e w' => e = .returned (.bool (decide (meS M S S.length ≤ 1000))) ∧ Below w.heap.size w w' := by
  have LX : Below w.heap.size w (w.alloc (.cells #[.slice ma mn mc, .slice sa sn sc] 25)) := belowA w _
  have X0 : Bs (w.alloc (.cells #[.slice ma mn mc, .slice sa sn sc] 25)) w.heap.size [.slice ma mn mc, .slice sa sn sc] := by simpa using bs_new w #[.slice ma mn mc, .slice sa sn sc] 25
  have HLX := hid LX
  have HN := hid hsn
  have HB := hid hB
  have HC := hid (measure_any ma M mn mc hmn _ (hM.low LX) (Nat.le_trans (meS_le M S (Nat.zero_le S.length)) hB))
  have HS := hid (hS.low LX)
  clear LX hmn hsn hB hM hS
  go_enter Tryz.func11, Tryz.ntmps11
  go_wp2_with fail
  generalize w.alloc (.cells #[.slice ma mn mc, .slice sa sn sc] 25) = x0 at *
  refine HC.out.mono ?_
  rintro e x1 ⟨rfl, hb⟩
  clear HC
  have X1 := X0.low hb
  have c0 := X1.2 0 _ rfl
  have c1 := X1.2 1 _ rfl
  have HS1 := hid (HS.out.low hb)
  have HL1 := hid (HLX.out.trans (hb.mono HLX.out.size))
  have HXW := hid (show w.heap.size < x1.heap.size from X1.1)
  clear HLX HS X0 X1 hb
  generalize hm0 : meL M = m0
  have HM0 := hid hm0
  clear hm0
  go_wp2_with fail
  go_loopw [3, 12] (fun v i wr => ∃ k m : Nat, k ≤ sn ∧ i = .int .i64 k ∧ v = .int .i64 m ∧ Hid (m = meS M S k) ∧ Hid (Below x1.heap.size x1 wr)) (fun _ i _ => sn - (intOf i).toNat)
  case atStart => exact ⟨0, m0, Nat.zero_le _, rfl, rfl, hid HM0.out.symm, hid (Below.refl _ _)⟩
  case round =>
    obtain ⟨k, m, hk, rfl, rfl, HU, HBW⟩ := hrel
    by_cases hlt : k < sn
    · rcases HS1.out.low HBW.out with h0 | ⟨b2, o2, rfl, hb2, hc2⟩
      · have := HN.out; omega
      obtain ⟨la, lc, c, r⟩ := hc2 k (by rw [← HN.out]; exact hlt)
      have hme : m + meL (S.getD k []) ≤ 4611686018427387904 := by
        have h1 : meS M S (k + 1) ≤ meS M S S.length := meS_le M S (by have := HN.out; omega)
        have h2 := HB.out
        have h3 := HU.out
        simp only [meS] at h1
        omega
      obtain ⟨ln, hln⟩ : ∃ ln, ln = (S.getD k []).length := ⟨_, rfl⟩
      have HC := hid (measure_any la (S.getD k []) ln lc hln wr r (by omega))
      rw [← hln] at c
      obtain ⟨q, hq⟩ : ∃ q, q = meL (S.getD k []) := ⟨_, rfl⟩
      rw [← hq] at hme HC
      have HQ := hid hq
      have g1 : (k : Int) < (sn : Int) := by omega
      have g0 : (0 : Int) ≤ (k : Int) := by omega
      clear hc2 r hln hq
      go_wp2_with fail
      refine HC.out.mono ?_
      rintro e x2 ⟨rfl, hb⟩
      have HX2 := hid (HBW.out.trans (hb.mono HBW.out.size))
      clear HC hb
      go_wp2_with fail
      refine ⟨⟨k + 1, m + q, by omega, by go_num, by go_num, hid ?_, HX2⟩, by simp [intOf]; omega⟩
      rw [HQ.out, HU.out]
      rfl
    · obtain rfl : k = sn := by omega
      have hmm : m ≤ 4611686018427387904 := by have h1 := HU.out; have h2 := HB.out; rw [← HN.out] at h2; omega
      go_wp2_with fail
      go_ret
      refine ⟨?_, HL1.out.trans (HBW.out.mono HL1.out.size)⟩
      rw [← HN.out, ← HU.out]
      congr 2
      simp
      omega
end Go.Proofs.YtimmjikpcekffaaGreatDoor.L
