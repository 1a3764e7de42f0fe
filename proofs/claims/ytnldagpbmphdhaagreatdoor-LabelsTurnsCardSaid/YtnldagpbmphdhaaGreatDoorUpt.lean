import Derived.Test.YtnldagpbmphdhaaGreatDoorTxl
import Derived.Test.YtnldagpbmphdhaaGreatDoorWak
namespace Go.Proofs.YtnldagpbmphdhaaGreatDoor.L
open Go.RowKit
set_option linter.unusedVariables false
/-- One call of the script. -/
def OpAt (W : World) (b o : Nat) : Prop := ∃ (k : Int) (vL vO vD : Value) (s ks vs : ByteArray) (n : Int) (l c : List Lb) (aD : Option Addr) (nD cD : Nat),
    W.cell? ⟨b, o, none⟩ = some (.int .i64 k) ∧ W.cell? ⟨b, o + 1, none⟩ = some vL ∧ W.cell? ⟨b, o + 2, none⟩ = some vO ∧ W.cell? ⟨b, o + 3, none⟩ = some vD ∧ W.cell? ⟨b, o + 4, none⟩ = some (.string s) ∧ W.cell? ⟨b, o + 5, none⟩ = some (.string ks) ∧ W.cell? ⟨b, o + 6, none⟩ = some (.string vs) ∧ W.cell? ⟨b, o + 7, none⟩ = some (.int .i64 n) ∧
    Came W vL l ∧ Came W vO c ∧ Good l ∧ Good c ∧ vD = .slice aD nD cD ∧ s.size ≤ 140737488351232 ∧ ks.size ≤ 140737488351232 ∧ vs.size ≤ 140737488351232 ∧ (-9223372036854775808 ≤ k ∧ k ≤ 9223372036854775807) ∧ (-9223372036854775808 ≤ n ∧ n ≤ 9223372036854775807)
/-- The script that came in. -/
def List8 (W : World) (a : Option Addr) (len : Nat) : Prop := len ≤ maxLen ∧ (len = 0 ∨ ∃ b off, a = some ⟨b, off, none⟩ ∧ b < W.heap.size ∧ ∀ j, j < len → OpAt W b (off + j * 8))
theorem opAt_low {W W' : World} {b o : Nat} (h : OpAt W b o) (hbl : b < W.heap.size) (hb : Below W.heap.size W W') : OpAt W' b o := by
  obtain ⟨k, vL, vO, vD, s, ks, vs, n, l, c, aD, nD, cD, c0, c1, c2, c3, c4, c5, c6, c7, mL, mO, r⟩ := h
  exact ⟨k, vL, vO, vD, s, ks, vs, n, l, c, aD, nD, cD, (hb.cell (p := ⟨b, o, none⟩) hbl).trans c0, (hb.cell (p := ⟨b, o + 1, none⟩) hbl).trans c1, (hb.cell (p := ⟨b, o + 2, none⟩) hbl).trans c2, (hb.cell (p := ⟨b, o + 3, none⟩) hbl).trans c3, (hb.cell (p := ⟨b, o + 4, none⟩) hbl).trans c4, (hb.cell (p := ⟨b, o + 5, none⟩) hbl).trans c5, (hb.cell (p := ⟨b, o + 6, none⟩) hbl).trans c6, (hb.cell (p := ⟨b, o + 7, none⟩) hbl).trans c7, mL.low hb, mO.low hb, r⟩
theorem list8_low {W W' : World} {a : Option Addr} {len : Nat} (h : List8 W a len) (hb : Below W.heap.size W W') : List8 W' a len := by
  refine ⟨h.1, ?_⟩
  rcases h.2 with h0 | ⟨b, off, rfl, hbl, hc⟩
  · exact Or.inl h0
  · exact Or.inr ⟨b, off, rfl, Nat.lt_of_lt_of_le hbl hb.size, fun j hj => opAt_low (hc j hj) hbl hb⟩
theorem texts_any (k : Int) (vL vO vD : Value) (s ky vl : ByteArray) (n : Int) (w : World) (hk : 1 ≤ k ∧ k ≤ 5) (hs : s.size ≤ 140737488351232) (hn : -9223372036854775808 ≤ n ∧ n ≤ 9223372036854775807) (hv : Vars w) :
    Calls Tryz.prog 27 #[.agg #[.int .i64 k, vL, vO, vD, .string s, .string ky, .string vl, .int .i64 n]] w fun e w' => e = .returned (.bool true) ∧ Below w.heap.size w w' := by
  have : k = 1 ∨ k = 2 ∨ k = 3 ∨ k = 4 ∨ k = 5 := by omega
  rcases this with rfl | rfl | rfl | rfl | rfl
  · exact texts_name vL vO vD s ky vl n w (by omega)
  · exact texts_key vL vO vD s ky vl n w (by omega)
  · exact texts_value vL vO vD s ky vl n w (by omega)
  · exact texts_int vL vO vD s ky vl n w (by omega) hv
  · exact texts_inttext vL vO vD s ky vl n w hn.1 hn.2 hv
theorem eight_all (w : World) (a b c d e f g h : Value) (t : TypeId) : ∀ i v, [a, b, c, d, e, f, g, h][i]? = some v → (w.alloc (.cells #[a, b, c, d, e, f, g, h] t)).cell? ⟨w.heap.size, i, none⟩ = some v := by
  intro i v hv
  have h : (w.alloc (.cells #[a, b, c, d, e, f, g, h] t)).heap[w.heap.size]? = some (.cells #[a, b, c, d, e, f, g, h] t) := by
    show (w.heap.push _)[w.heap.size]? = _
    simp
  unfold World.cell?
  rw [h]
  simpa using hv
set_option maxHeartbeats 4000000 in
set_option maxRecDepth 100000 in
theorem plays_texts (k : Int) (vL vO : Value) (aD : Option Addr) (nD cD : Nat) (l c : List Lb) (s ky vl : ByteArray) (n : Int) (w : World) (hL : Came w vL l) (hO : Came w vO c) (hk : 1 ≤ k ∧ k ≤ 5) (hs : s.size ≤ 140737488351232) (hn : -9223372036854775808 ≤ n ∧ n ≤ 9223372036854775807) (hv : Vars w) :
    Calls Tryz.prog 15 #[.agg #[.int .i64 k, vL, vO, .slice aD nD cD, .string s, .string ky, .string vl, .int .i64 n]] w fun e w' => e = .returned (.bool true) ∧ Below w.heap.size w w' := by
  have F := hid (fun W (hb : Below w.heap.size w W) => texts_any k vL vO (.slice aD nD cD) s ky vl n W hk hs hn (hv.low hb))
  obtain ⟨aL, cL, rfl⟩ := came_slice hL
  obtain ⟨aO, cO, rfl⟩ := came_slice hO
  have B0 := hid (belowA w (.cells #[.int .i64 k, .slice aL l.length cL, .slice aO c.length cO, .slice aD nD cD, .string s, .string ky, .string vl, .int .i64 n] 40))
  obtain ⟨h1, h5⟩ := hk
  clear hL hO hv
  go_enter Tryz.func15, Tryz.ntmps15
  go_wp2_with fail
  refine (F.out _ ?_).mono ?_
  · exact B0.out
  rintro e w1 ⟨rfl, hb⟩
  have B1 := hid (B0.out.trans (hb.mono B0.out.size))
  clear hb
  go_wp2_with fail
  go_ret
  exact ⟨rfl, B1.out⟩
set_option maxHeartbeats 4000000 in
set_option maxRecDepth 100000 in
/-- The script, where what is played of it is right. -/
theorem upto_any (lo hi : Int) (a : Option Addr) (len cap : Nat) (w : World) (hl : List8 w a len)
    (LAW : ∀ W (k : Int) (vL vO : Value) (aD : Option Addr) (nD cD : Nat) (s ks vs : ByteArray) (n : Int) (l c : List Lb), Below w.heap.size w W → lo ≤ k → k ≤ hi → Came w vL l → Came w vO c → Good l → Good c → s.size ≤ 140737488351232 → ks.size ≤ 140737488351232 → vs.size ≤ 140737488351232 → (-9223372036854775808 ≤ n ∧ n ≤ 9223372036854775807) →
      Calls Tryz.prog 15 #[.agg #[.int .i64 k, vL, vO, .slice aD nD cD, .string s, .string ks, .string vs, .int .i64 n]] W fun e w' => e = .returned (.bool true) ∧ Below W.heap.size W w') :
    Calls Tryz.prog 9 #[.slice a len cap, .int .i64 lo, .int .i64 hi] w fun e w' => e = .returned (.bool true) ∧ Below w.heap.size w w' := by
  have HLAW := hid LAW
  have HL := hid hl
  have hlen : len ≤ maxLen := hl.1
  unfold maxLen at hlen
  clear hl LAW
  go_enter Tryz.func9, Tryz.ntmps9
  go_wp2_with fail
  go_loopw [7] (fun i wr => ∃ j : Nat, j ≤ len ∧ i = .int .i64 j ∧ Hid (Below w.heap.size w wr)) (fun i _ => len - (intOf i).toNat)
  case atStart => exact ⟨0, Nat.zero_le _, rfl, hid (Below.refl _ _)⟩
  case round =>
    obtain ⟨j, hj, rfl, HB⟩ := hrel
    by_cases hlt : j < len
    · rcases HL.out.2 with h0 | ⟨b, off, rfl, hbl, hc⟩
      · omega
      obtain ⟨k, vL, vO, vD, s, ks, vs, n, l, c, aD, nD, cD, c0, c1, c2, c3, c4, c5, c6, c7, mL, mO, gL, gO, rfl, hs, hks, hvs, hk, hn⟩ := hc j hlt
      rw [← HB.out.cell (p := ⟨b, off + j * 8, none⟩) hbl] at c0
      rw [← HB.out.cell (p := ⟨b, off + j * 8 + 1, none⟩) hbl] at c1
      rw [← HB.out.cell (p := ⟨b, off + j * 8 + 2, none⟩) hbl] at c2
      rw [← HB.out.cell (p := ⟨b, off + j * 8 + 3, none⟩) hbl] at c3
      rw [← HB.out.cell (p := ⟨b, off + j * 8 + 4, none⟩) hbl] at c4
      rw [← HB.out.cell (p := ⟨b, off + j * 8 + 5, none⟩) hbl] at c5
      rw [← HB.out.cell (p := ⟨b, off + j * 8 + 6, none⟩) hbl] at c6
      rw [← HB.out.cell (p := ⟨b, off + j * 8 + 7, none⟩) hbl] at c7
      have hsz : b < wr.heap.size := Nat.lt_of_lt_of_le hbl HB.out.size
      by_cases h1 : lo ≤ k
      · by_cases h2 : k ≤ hi
        · have L0 := hid (HLAW.out wr k vL vO aD nD cD s ks vs n l c HB.out h1 h2 mL mO gL gO hs hks hvs hn)
          obtain ⟨aL, cL, rfl⟩ := came_slice mL
          obtain ⟨aO, cO, rfl⟩ := came_slice mO
          clear hc mL mO gL gO hbl
          go_wp2_with fail
          refine L0.out.mono ?_
          rintro e w2 ⟨rfl, hb2⟩
          have HB2 := hid (HB.out.trans (hb2.mono HB.out.size))
          clear hb2
          go_wp2_with fail
          exact ⟨⟨j + 1, by omega, by go_num, HB2⟩, by simp [intOf]; omega⟩
        · clear hc mL mO gL gO hbl
          go_wp2_with fail
          exact ⟨⟨j + 1, by omega, by go_num, HB⟩, by simp [intOf]; omega⟩
      · clear hc mL mO gL gO hbl
        go_wp2_with fail
        exact ⟨⟨j + 1, by omega, by go_num, HB⟩, by simp [intOf]; omega⟩
    · obtain rfl : j = len := by omega
      go_wp2_with fail
      go_ret
      exact ⟨rfl, HB.out⟩
end Go.Proofs.YtnldagpbmphdhaaGreatDoor.L
