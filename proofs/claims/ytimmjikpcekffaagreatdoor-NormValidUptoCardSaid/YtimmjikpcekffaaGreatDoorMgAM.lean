import Derived.Test.YtimmjikpcekffaaGreatDoorMgAH
import Derived.Test.YtimmjikpcekffaaGreatDoorMgAI
import Derived.Test.YtimmjikpcekffaaGreatDoorMgAJ
import Derived.Test.YtimmjikpcekffaaGreatDoorMgAK
import Derived.Test.YtimmjikpcekffaaGreatDoorMgAL
import Derived.Test.YtimmjikpcekffaaGreatDoorMgAE
import Derived.Test.YtimmjikpcekffaaGreatDoorMgAB
namespace Go.Proofs.YtimmjikpcekffaaGreatDoor.L
open Go.RowKit
set_option linter.unusedVariables false
set_option linter.unusedSimpArgs false
theorem rlit_any (pods : Bool) (ns : Int) (kd tk ts : Int) (ty : ByteArray) (tl rl nu : Int) (xa : Option Addr) (xn xc : Nat) (na : Option Addr) (nn nc : Nat) (ok os : Int) (oy : ByteArray) (ol of : Int) (ky : ByteArray) (sl : Int) (tx : List ByteArray) (nm : List Int) (w : World) (hs : ty.size ≤ maxLen) (ho : oy.size ≤ maxLen) (hy : ky.size ≤ maxLen) (hx : xn = tx.length) (hn : nn = nm.length) (rx : RdS w xa tx) (rn : RdI w na nm) (bx : xn ≤ 140737488355328) (bn : nn ≤ 140737488355328) (hz : ∀ k, (tx.getD k ByteArray.empty).size ≤ maxLen) : Calls Tryz.prog 30 #[.agg #[.int .i64 kd, .int .i64 tk, .int .i64 ts, .string ty, .int .i64 tl, .int .i64 rl, .int .i64 nu, .slice xa xn xc, .slice na nn nc, .int .i64 ok, .int .i64 os, .string oy, .int .i64 ol, .int .i64 of, .string ky, .int .i64 sl], .bool pods, .int .i64 ns] w fun e w' => (∃ b, e = .returned (.bool b) ∧ (b = true ↔ RLitP pods ns kd tk ts ty tl rl nu xa xn xc na nn nc ok os oy ol of ky sl tx nm)) ∧ Below w.heap.size w w' := by
  cases k0 : decide ((127 : Int) < (ky.size : Int))
  · cases pods
    · by_cases q1 : kd = 1
      · exact rlit_0_1 ns kd tk ts ty tl rl nu xa xn xc na nn nc ok os oy ol of ky sl tx nm w k0 (by rw [q1]; rfl) (by rw [q1]; rfl) (by rw [q1]; rfl) (by rw [q1]; rfl) (by rw [q1]; rfl) (by rw [q1]; rfl) (by rw [q1]; rfl) hs ho hy hx hn rx rn bx bn hz
      by_cases q2 : kd = 2
      · exact rlit_0_2 ns kd tk ts ty tl rl nu xa xn xc na nn nc ok os oy ol of ky sl tx nm w k0 (by rw [q2]; rfl) (by rw [q2]; rfl) (by rw [q2]; rfl) (by rw [q2]; rfl) (by rw [q2]; rfl) (by rw [q2]; rfl) (by rw [q2]; rfl) hs ho hy hx hn rx rn bx bn hz
      by_cases q3 : kd = 3
      · exact rlit_0_3 ns kd tk ts ty tl rl nu xa xn xc na nn nc ok os oy ol of ky sl tx nm w k0 (by rw [q3]; rfl) (by rw [q3]; rfl) (by rw [q3]; rfl) (by rw [q3]; rfl) (by rw [q3]; rfl) (by rw [q3]; rfl) (by rw [q3]; rfl) hs ho hy hx hn rx rn bx bn hz
      by_cases q4 : kd = 4
      · exact rlit_0_4 ns kd tk ts ty tl rl nu xa xn xc na nn nc ok os oy ol of ky sl tx nm w k0 (by rw [q4]; rfl) (by rw [q4]; rfl) (by rw [q4]; rfl) (by rw [q4]; rfl) (by rw [q4]; rfl) (by rw [q4]; rfl) (by rw [q4]; rfl) hs ho hy hx hn rx rn bx bn hz
      by_cases q5 : kd = 5
      · exact rlit_0_5 ns kd tk ts ty tl rl nu xa xn xc na nn nc ok os oy ol of ky sl tx nm w k0 (by rw [q5]; rfl) (by rw [q5]; rfl) (by rw [q5]; rfl) (by rw [q5]; rfl) (by rw [q5]; rfl) (by rw [q5]; rfl) (by rw [q5]; rfl) hs ho hy hx hn rx rn bx bn hz
      by_cases q6 : kd = 6
      · exact rlit_0_6 ns kd tk ts ty tl rl nu xa xn xc na nn nc ok os oy ol of ky sl tx nm w k0 (by rw [q6]; rfl) (by rw [q6]; rfl) (by rw [q6]; rfl) (by rw [q6]; rfl) (by rw [q6]; rfl) (by rw [q6]; rfl) (by rw [q6]; rfl) hs ho hy hx hn rx rn bx bn hz
      by_cases q7 : kd = 7
      · exact rlit_0_7 ns kd tk ts ty tl rl nu xa xn xc na nn nc ok os oy ol of ky sl tx nm w k0 (by rw [q7]; rfl) (by rw [q7]; rfl) (by rw [q7]; rfl) (by rw [q7]; rfl) (by rw [q7]; rfl) (by rw [q7]; rfl) (by rw [q7]; rfl) hs ho hy hx hn rx rn bx bn hz
      exact rlit_0_8 ns kd tk ts ty tl rl nu xa xn xc na nn nc ok os oy ol of ky sl tx nm w k0 (by simp [q1]) (by simp [q2]) (by simp [q3]) (by simp [q4]) (by simp [q5]) (by simp [q6]) (by simp [q7]) hs ho hy hx hn rx rn bx bn hz
    · by_cases q1 : kd = 1
      · exact rlit_1_1 ns kd tk ts ty tl rl nu xa xn xc na nn nc ok os oy ol of ky sl tx nm w k0 (by rw [q1]; rfl) (by rw [q1]; rfl) (by rw [q1]; rfl) (by rw [q1]; rfl) (by rw [q1]; rfl) (by rw [q1]; rfl) (by rw [q1]; rfl) hs ho hy hx hn rx rn bx bn hz
      by_cases q2 : kd = 2
      · exact rlit_1_2 ns kd tk ts ty tl rl nu xa xn xc na nn nc ok os oy ol of ky sl tx nm w k0 (by rw [q2]; rfl) (by rw [q2]; rfl) (by rw [q2]; rfl) (by rw [q2]; rfl) (by rw [q2]; rfl) (by rw [q2]; rfl) (by rw [q2]; rfl) hs ho hy hx hn rx rn bx bn hz
      by_cases q3 : kd = 3
      · exact rlit_1_3 ns kd tk ts ty tl rl nu xa xn xc na nn nc ok os oy ol of ky sl tx nm w k0 (by rw [q3]; rfl) (by rw [q3]; rfl) (by rw [q3]; rfl) (by rw [q3]; rfl) (by rw [q3]; rfl) (by rw [q3]; rfl) (by rw [q3]; rfl) hs ho hy hx hn rx rn bx bn hz
      by_cases q4 : kd = 4
      · exact rlit_1_4 ns kd tk ts ty tl rl nu xa xn xc na nn nc ok os oy ol of ky sl tx nm w k0 (by rw [q4]; rfl) (by rw [q4]; rfl) (by rw [q4]; rfl) (by rw [q4]; rfl) (by rw [q4]; rfl) (by rw [q4]; rfl) (by rw [q4]; rfl) hs ho hy hx hn rx rn bx bn hz
      by_cases q5 : kd = 5
      · exact rlit_1_5 ns kd tk ts ty tl rl nu xa xn xc na nn nc ok os oy ol of ky sl tx nm w k0 (by rw [q5]; rfl) (by rw [q5]; rfl) (by rw [q5]; rfl) (by rw [q5]; rfl) (by rw [q5]; rfl) (by rw [q5]; rfl) (by rw [q5]; rfl) hs ho hy hx hn rx rn bx bn hz
      by_cases q6 : kd = 6
      · exact rlit_1_6 ns kd tk ts ty tl rl nu xa xn xc na nn nc ok os oy ol of ky sl tx nm w k0 (by rw [q6]; rfl) (by rw [q6]; rfl) (by rw [q6]; rfl) (by rw [q6]; rfl) (by rw [q6]; rfl) (by rw [q6]; rfl) (by rw [q6]; rfl) hs ho hy hx hn rx rn bx bn hz
      by_cases q7 : kd = 7
      · exact rlit_1_7 ns kd tk ts ty tl rl nu xa xn xc na nn nc ok os oy ol of ky sl tx nm w k0 (by rw [q7]; rfl) (by rw [q7]; rfl) (by rw [q7]; rfl) (by rw [q7]; rfl) (by rw [q7]; rfl) (by rw [q7]; rfl) (by rw [q7]; rfl) hs ho hy hx hn rx rn bx bn hz
      exact rlit_1_8 ns kd tk ts ty tl rl nu xa xn xc na nn nc ok os oy ol of ky sl tx nm w k0 (by simp [q1]) (by simp [q2]) (by simp [q3]) (by simp [q4]) (by simp [q5]) (by simp [q6]) (by simp [q7]) hs ho hy hx hn rx rn bx bn hz
  · cases pods
    · exact rlit_0_0 ns kd tk ts ty tl rl nu xa xn xc na nn nc ok os oy ol of ky sl tx nm w k0 hs ho hy hx hn rx rn bx bn hz
    · exact rlit_1_0 ns kd tk ts ty tl rl nu xa xn xc na nn nc ok os oy ol of ky sl tx nm w k0 hs ho hy hx hn rx rn bx bn hz
end Go.Proofs.YtimmjikpcekffaaGreatDoor.L
namespace Go.Proofs.YtimmjikpcekffaaGreatDoor.L
open Go.RowKit
set_option linter.unusedVariables false
set_option linter.unusedSimpArgs false
/-- The zero literal. -/
def RZeP (kd tk ts : Int) (ty : ByteArray) (tl rl nu : Int) (xa : Option Addr) (xn xc : Nat) (na : Option Addr) (nn nc : Nat) (ok os : Int) (oy : ByteArray) (ol of : Int) (ky : ByteArray) (sl : Int) : Prop := (kd == 0) = true ∧ ((tk == 0) = true ∧ (ts == 0) = true ∧ (ty.toList == []) = true ∧ (tl == 0) = true) ∧ RestP false false false false false false rl nu xn nn ok os oy ol of ky sl
set_option maxHeartbeats 16000000 in
set_option maxRecDepth 100000 in
theorem rzero_any (kd tk ts : Int) (ty : ByteArray) (tl rl nu : Int) (xa : Option Addr) (xn xc : Nat) (na : Option Addr) (nn nc : Nat) (ok os : Int) (oy : ByteArray) (ol of : Int) (ky : ByteArray) (sl : Int) (w : World) (bx : xn ≤ 140737488355328) (bn : nn ≤ 140737488355328) : Calls Tryz.prog 31 #[.agg #[.int .i64 kd, .int .i64 tk, .int .i64 ts, .string ty, .int .i64 tl, .int .i64 rl, .int .i64 nu, .slice xa xn xc, .slice na nn nc, .int .i64 ok, .int .i64 os, .string oy, .int .i64 ol, .int .i64 of, .string ky, .int .i64 sl]] w fun e w' => (∃ b, e = .returned (.bool b) ∧ (b = true ↔ RZeP kd tk ts ty tl rl nu xa xn xc na nn nc ok os oy ol of ky sl)) ∧ Below w.heap.size w w' := by
  have HLX := hid (show Below w.heap.size w (w.alloc (.cells #[.int .i64 kd, .int .i64 tk, .int .i64 ts, .string ty, .int .i64 tl, .int .i64 rl, .int .i64 nu, .slice xa xn xc, .slice na nn nc, .int .i64 ok, .int .i64 os, .string oy, .int .i64 ol, .int .i64 of, .string ky, .int .i64 sl] 49)) from ((Below.refl _ w).alloc (by simp) _))
  have X0 : Bs (w.alloc (.cells #[.int .i64 kd, .int .i64 tk, .int .i64 ts, .string ty, .int .i64 tl, .int .i64 rl, .int .i64 nu, .slice xa xn xc, .slice na nn nc, .int .i64 ok, .int .i64 os, .string oy, .int .i64 ol, .int .i64 of, .string ky, .int .i64 sl] 49)) w.heap.size [.int .i64 kd, .int .i64 tk, .int .i64 ts, .string ty, .int .i64 tl, .int .i64 rl, .int .i64 nu, .slice xa xn xc, .slice na nn nc, .int .i64 ok, .int .i64 os, .string oy, .int .i64 ol, .int .i64 of, .string ky, .int .i64 sl] := by simpa using bs_1_0 w _ _
  go_enter Tryz.func31, Tryz.ntmps31
  go_upto_region 1 with (fail)
  generalize (w.alloc (.cells #[.int .i64 kd, .int .i64 tk, .int .i64 ts, .string ty, .int .i64 tl, .int .i64 rl, .int .i64 nu, .slice xa xn xc, .slice na nn nc, .int .i64 ok, .int .i64 os, .string oy, .int .i64 ol, .int .i64 of, .string ky, .int .i64 sl] 49)) = x0 at *
  have c0 := bs16 X0
  have z0 := X0.1
  cases h1 : (kd == 0)
  · go_wp2_with fail
    go_ret
    refine ⟨⟨_, rfl, ?_⟩, HLX.out⟩
    clear X0 c0 z0
    unfold RZeP
    simp [h1]
  · cases h2 : (tk == 0)
    · go_wp2_with fail
      go_ret
      refine ⟨⟨_, rfl, ?_⟩, HLX.out⟩
      clear X0 c0 z0
      unfold RZeP
      simp [h1, h2]
    · cases h3 : (ts == 0)
      · go_wp2_with fail
        go_ret
        refine ⟨⟨_, rfl, ?_⟩, HLX.out⟩
        clear X0 c0 z0
        unfold RZeP
        simp [h1, h2, h3]
      · cases h4 : (ty.toList == [])
        · go_wp2_with fail
          go_ret
          refine ⟨⟨_, rfl, ?_⟩, HLX.out⟩
          clear X0 c0 z0
          unfold RZeP
          simp [h1, h2, h3, h4]
        · cases h5 : (tl == 0)
          · go_wp2_with fail
            go_ret
            refine ⟨⟨_, rfl, ?_⟩, HLX.out⟩
            clear X0 c0 z0
            unfold RZeP
            simp [h1, h2, h3, h4, h5]
          · have C := hid (rest_zero kd tk ts ty tl rl nu xa xn xc na nn nc ok os oy ol of ky sl x0 bx bn)
            go_wp2_with fail
            refine C.out.mono ?_
            rintro e x1 ⟨⟨bb, rfl, ebb⟩, hb⟩
            replace HLX := hid (HLX.out.trans (hb.mono HLX.out.size))
            replace X0 := X0.low hb
            clear hb C
            have EBB := hid ebb
            clear ebb
            clear c0 z0
            have c0 := bs16 X0
            have z0 := X0.1
            go_wp2_with fail
            go_ret
            refine ⟨⟨_, rfl, ?_⟩, HLX.out⟩
            rw [EBB.out]
            clear X0 c0 z0
            unfold RZeP
            simp [h1, h2, h3, h4, h5]
end Go.Proofs.YtimmjikpcekffaaGreatDoor.L
namespace Go.Proofs.YtimmjikpcekffaaGreatDoor.L
open Go.RowKit
set_option linter.unusedVariables false
theorem cells7 {W : World} {N : Nat} {a b c d e f g : Value} {ty : TypeId} (h : W.heap[N]? = some (.cells #[a, b, c, d, e, f, g] ty (0, 0))) : W.cell? ⟨N, 0, none⟩ = some a ∧ W.cell? ⟨N, 1, none⟩ = some b ∧ W.cell? ⟨N, 2, none⟩ = some c ∧ W.cell? ⟨N, 3, none⟩ = some d ∧ W.cell? ⟨N, 4, none⟩ = some e ∧ W.cell? ⟨N, 5, none⟩ = some f ∧ W.cell? ⟨N, 6, none⟩ = some g := by
  refine ⟨?_, ?_, ?_, ?_, ?_, ?_, ?_⟩ <;> (unfold World.cell?; rw [h]; rfl)
theorem cells4 {W : World} {N : Nat} {a b c d : Value} {ty : TypeId} (h : W.heap[N]? = some (.cells #[a, b, c, d] ty (0, 0))) : W.cell? ⟨N, 0, none⟩ = some a ∧ W.cell? ⟨N, 1, none⟩ = some b ∧ W.cell? ⟨N, 2, none⟩ = some c ∧ W.cell? ⟨N, 3, none⟩ = some d := by
  refine ⟨?_, ?_, ?_, ?_⟩ <;> (unfold World.cell?; rw [h]; rfl)
set_option maxRecDepth 100000 in
theorem run_cl (a b c d e f g : Value) (w : World) : (Instr.field 162 (.agg #[a, b, c, d, e, f, g]) 0).run Tryz.prog w = .ok a w := by kernel_rfl
set_option maxHeartbeats 8000000 in
set_option maxRecDepth 100000 in
theorem right_any (a : Option Addr) (T : List Pt) (cap : Nat) (p : Pt) (ka : Option Addr) (kc : Nat) (w : World) (hT : PL w a T) (hk : RdI w ka p.kids) (hin : ∀ x, x ∈ p.kids → 0 ≤ x ∧ x < T.length) (hl : p.kids.length ≤ 1000) (hL : T.length ≤ 1000) :
    Calls Tryz.prog 95 #[.slice a T.length cap, .agg #[.int .i64 p.kind, .string p.text, .int .i64 p.num, .slice ka p.kids.length kc]] w fun e w' => ∃ b, e = .returned (.bool b) ∧ (b = true ↔ tabP T p) ∧ Below w.heap.size w w' := by
  obtain ⟨kd, tx, nu, ks⟩ := p
  simp only at *
  obtain ⟨n, hn⟩ : ∃ n, n = ks.length := ⟨_, rfl⟩
  obtain ⟨L, hLe⟩ : ∃ L, L = T.length := ⟨_, rfl⟩
  have HT := hid hT
  have HK := hid hk
  have HIN := hid hin
  have HN := hid hn
  have HL := hid hLe
  have HFO := hid formof_any
  have HTK := hid takes_any
  have HFI := hid fits_any
  rw [← hn] at hl ⊢
  rw [← hLe] at hL ⊢
  clear hT hk hin hn hLe
  have hB0 := belowA w (.cells #[.int .i64 kd, .string tx, .int .i64 nu, .slice ka n kc] 31)
  have hX0 := heap_alloc_new w (.cells #[.int .i64 kd, .string tx, .int .i64 nu, .slice ka n kc] 31)
  have HB0 := hid hB0
  have HX0 := hid hX0
  clear hB0 hX0
  have RC := run_cl
  go_enter Tryz.func95, Tryz.ntmps95
  unfold fmv at HFO
  go_upto_region 2 with (go_at_call 96; refine (HFO.out _ _).mono ?_; rintro e w1 ⟨rfl, l1⟩; have L1 := hid l1; clear l1; have hX1 := (L1.out.block _ (lt_blk HX0.out)).trans HX0.out; have ⟨x0, x1, x2, x3⟩ := cells4 hX1)
  have hB5 := belowA w1 (.cells #[.int .i64 (fmO kd).cl, .int .i64 (fmO kd).kd, .int .i64 (fmO kd).ls, .int .i64 (fmO kd).ms, .bool (fmO kd).tx, .int .i64 (fmO kd).lo, .int .i64 (fmO kd).hi] 162)
  have hX5 := heap_alloc_new w1 (.cells #[.int .i64 (fmO kd).cl, .int .i64 (fmO kd).kd, .int .i64 (fmO kd).ls, .int .i64 (fmO kd).ms, .bool (fmO kd).tx, .int .i64 (fmO kd).lo, .int .i64 (fmO kd).hi] 162)
  have HX1 := hid ((hB5.block _ (lt_blk hX1)).trans hX1)
  have HB5 := hid (show Below w.heap.size w (w1.alloc (.cells #[.int .i64 (fmO kd).cl, .int .i64 (fmO kd).kd, .int .i64 (fmO kd).ls, .int .i64 (fmO kd).ms, .bool (fmO kd).tx, .int .i64 (fmO kd).lo, .int .i64 (fmO kd).hi] 162)) from (HB0.out.trans (L1.out.mono (by simp))).trans (hB5.mono (by have := L1.out.size; simp at this; omega)))
  have hlt5 : w.heap.size ≠ w1.heap.size := by have := L1.out.size; simp at this; omega
  have HX5 := hid hX5
  have HS5 := hid (show (w1.alloc (.cells #[.int .i64 (fmO kd).cl, .int .i64 (fmO kd).kd, .int .i64 (fmO kd).ls, .int .i64 (fmO kd).ms, .bool (fmO kd).tx, .int .i64 (fmO kd).lo, .int .i64 (fmO kd).hi] 162)).heap.size = w1.heap.size + 1 by simp)
  unfold fmv at HTK HFI
  clear hB5 hX5 hX1 L1 x0 x1 x2 x3 HB0 HX0
  generalize w1.alloc (.cells #[.int .i64 (fmO kd).cl, .int .i64 (fmO kd).kd, .int .i64 (fmO kd).ls, .int .i64 (fmO kd).ms, .bool (fmO kd).tx, .int .i64 (fmO kd).lo, .int .i64 (fmO kd).hi] 162) = W5 at *
  generalize w1.heap.size = b5 at *
  have ⟨x0, x1, x2, x3⟩ := cells4 HX1.out
  go_wp2_with fail
  clear x0 x1 x2 x3
  go_loopw [14] (fun i wr => ∃ k : Nat, k ≤ n ∧ i = .int .i64 k ∧ Hid (Below W5.heap.size W5 wr) ∧ Hid (∀ j, j < k → takesB (fmO kd) (fmO (pt T (ks.getD j 0).toNat).kind).cl = true)) (fun i _ => n - (intOf i).toNat)
  case atStart => exact ⟨0, Nat.zero_le _, rfl, hid (Below.refl _ _), hid (fun j hj => by omega)⟩
  case round =>
    obtain ⟨k, hk, rfl, HB, HE⟩ := hrel
    have hx5 := (HB.out.block _ (lt_blk HX5.out)).trans HX5.out
    have ⟨f0, f1, f2, f3, f4, f5, f6⟩ := cells7 hx5
    by_cases hlt : k < n
    · have r1 := (HK.out.low HB5.out (Nat.le_refl _)).low HB.out (Nat.le_refl _)
      have r2 := (HT.out.low HB5.out).low HB.out
      rcases r1 with h0 | ⟨b1, o1, rfl, hb1, hc1⟩
      · have := HN.out; omega
      have hkn : k < ks.length := by rw [← HN.out]; exact hlt
      have p0 := hc1 k hkn
      have hmem : ks.getD k 0 ∈ ks := by rw [List.getD_eq_getElem?_getD, List.getElem?_eq_getElem hkn]; exact List.getElem_mem hkn
      have hx := HIN.out _ hmem
      obtain ⟨x, hxe⟩ : ∃ x : Nat, ks.getD k 0 = x := ⟨(ks.getD k 0).toNat, by omega⟩
      rw [hxe] at p0 hx
      have HXE := hid hxe
      rcases r2 with h0 | ⟨b2, o2, rfl, hb2, hc2⟩
      · have := HL.out; omega
      obtain ⟨_, _, q0, _⟩ := hc2 x (by omega)
      have g3 : (x : Int) < (L : Int) := by have := HL.out; omega
      clear hc1 hc2 hmem hxe hx hkn
      have g1 : (k : Int) < (n : Int) := by omega
      have g2 : (0 : Int) ≤ (k : Int) := by omega
      have g4 : (0 : Int) ≤ (x : Int) := by omega
      generalize hkk : (pt T x).kind = kk at *
      have HKK := hid hkk
      clear hkk
      go_wp2_with fail
      go_region_held3 (fun Y => Y.cell? ⟨b5, 0, none⟩ = some (.int .i64 (fmO kd).cl) ∧ Y.cell? ⟨b5, 1, none⟩ = some (.int .i64 (fmO kd).kd) ∧ Y.cell? ⟨b5, 2, none⟩ = some (.int .i64 (fmO kd).ls) ∧ Y.cell? ⟨b5, 3, none⟩ = some (.int .i64 (fmO kd).ms) ∧ Y.cell? ⟨b5, 4, none⟩ = some (.bool (fmO kd).tx) ∧ Y.cell? ⟨b5, 5, none⟩ = some (.int .i64 (fmO kd).lo) ∧ Y.cell? ⟨b5, 6, none⟩ = some (.int .i64 (fmO kd).hi) ∧ Y.cell? ⟨b2, o2 + x * 4, none⟩ = some (.int .i64 kk))
        (first | exact ⟨f0, f1, f2, f3, f4, f5, f6, q0⟩ | exact T2 | exact T3)
        (first
          | (go_at_call 96; refine (HFO.out _ _).mono ?_; rintro e w2 ⟨rfl, l2⟩
             have l2' : Below wr.heap.size wr w2 := ⟨l2.os, l2.tape, l2.output, l2.size, l2.block⟩
             have L2 := hid l2'
             have y5 := (l2'.block _ (lt_blk hx5)).trans hx5
             have ⟨t0, t1, t2, t3, t4, t5, t6⟩ := cells7 y5
             have T2 := And.intro t0 (And.intro t1 (And.intro t2 (And.intro t3 (And.intro t4 (And.intro t5 (And.intro t6 ((l2'.cell (p := ⟨b2, o2 + x * 4, none⟩) hb2).trans q0)))))))
             clear l2 l2' t0 t1 t2 t3 t4 t5 t6)
          | (go_at_call 117; refine (HTK.out (fmO kd) (fmO kk).cl _).mono ?_; rintro e w3 ⟨rfl, l3⟩
             have l3' : Below w2.heap.size w2 w3 := ⟨l3.os, l3.tape, l3.output, l3.size, l3.block⟩
             have L3 := hid l3'
             have z5 := (l3'.block _ (lt_blk y5)).trans y5
             have ⟨t0, t1, t2, t3, t4, t5, t6⟩ := cells7 z5
             have T3 := And.intro t0 (And.intro t1 (And.intro t2 (And.intro t3 (And.intro t4 (And.intro t5 (And.intro t6 ((l3'.cell (p := ⟨b2, o2 + x * 4, none⟩) (Nat.lt_of_lt_of_le hb2 L2.out.size)).trans T2.2.2.2.2.2.2.2)))))))
             clear l3 l3' t0 t1 t2 t3 t4 t5 t6))
      have B3 := hid (show Below W5.heap.size W5 w3 from (HB.out.trans (L2.out.mono HB.out.size)).trans (L3.out.mono (Nat.le_trans HB.out.size L2.out.size)))
      clear T2 T3 L2 L3 y5 z5 f0 f1 f2 f3 f4 f5 f6 hx5 q0 p0
      cases ht : takesB (fmO kd) (fmO kk).cl
      · go_wp2_with fail
        go_ret
        refine ⟨false, rfl, ⟨(fun h => by cases h), fun h => ?_⟩, HB5.out.trans (B3.out.mono HB5.out.size)⟩
        have hkn : k < ks.length := by rw [← HN.out]; exact hlt
        have hmem : ks.getD k 0 ∈ ks := by rw [List.getD_eq_getElem?_getD, List.getElem?_eq_getElem hkn]; exact List.getElem_mem hkn
        have := h.2 _ hmem
        rw [HXE.out] at this
        rw [show ((x : Int)).toNat = x from Int.toNat_natCast x, HKK.out, ht] at this
        cases this
      · have HTT := hid ht
        clear ht
        go_wp2_with fail
        refine ⟨⟨k + 1, by omega, by go_num, B3, hid (fun j hj => ?_)⟩, by simp [intOf]; omega⟩
        by_cases e : j = k
        · rw [e, HXE.out, show ((x : Int)).toNat = x from Int.toNat_natCast x, HKK.out]
          exact HTT.out
        · exact HE.out j (by omega)
    · obtain rfl : k = n := by omega
      have hx1 := (HB.out.block _ (lt_blk HX1.out)).trans HX1.out
      have ⟨x0, x1, x2, x3⟩ := cells4 hx1
      go_wp2_with (go_at_call 118; refine (HFI.out (fmO kd) kd nu tx ka k kc _).mono ?_; rintro e w2 ⟨rfl, l2⟩; have L2 := hid l2; clear l2)
      go_ret
      refine ⟨_, rfl, ?_, (HB5.out.trans (HB.out.mono HB5.out.size)).trans (L2.out.mono (Nat.le_trans HB5.out.size HB.out.size))⟩
      unfold tabP
      simp only
      rw [← HN.out]
      constructor
      · intro h
        refine ⟨h, fun y hy => ?_⟩
        obtain ⟨j, hj, e⟩ := List.getElem_of_mem hy
        have := HE.out j (by rw [HN.out]; exact hj)
        rw [List.getD_eq_getElem?_getD, List.getElem?_eq_getElem hj] at this
        simp only [Option.getD_some, e] at this
        exact this
      · intro h
        exact h.1
end Go.Proofs.YtimmjikpcekffaaGreatDoor.L
