import Derived.Test.YtimmjikpcekffaaGreatDoorProg
import Derived.Deep.RegionHeld3
import Derived.Test.YtimmjikpcekffaaGreatDoorMgAB
namespace Go.Proofs.YtimmjikpcekffaaGreatDoor.L
open Go.RowKit
set_option linter.unusedVariables false
set_option linter.unusedSimpArgs false
/-- The cells of a box. -/
def Bs (W : World) (b : Nat) (vs : List Value) : Prop := b < W.heap.size ∧ ∀ j v, vs[j]? = some v → W.cell? ⟨b, j, none⟩ = some v
theorem Bs.low {W W' : World} {b : Nat} {vs : List Value} (h : Bs W b vs) (hb : Below W.heap.size W W') : Bs W' b vs := ⟨Nat.lt_of_lt_of_le h.1 hb.size, fun j v hv => (hb.cell (p := ⟨b, j, none⟩) h.1).trans (h.2 j v hv)⟩
theorem bs_new (w : World) (a : Array Value) (t : TypeId) : Bs (w.alloc (.cells a t)) w.heap.size a.toList := by
  refine ⟨by simp, fun j v hv => ?_⟩
  have h : (w.alloc (.cells a t)).heap[w.heap.size]? = some (.cells a t) := World.alloc_heap_new w _
  unfold World.cell?
  rw [h]
  simpa using hv
theorem bs_1_0 (w : World) (a : Array Value) (t : TypeId) : Bs (w.alloc (.cells a t)) w.heap.size a.toList := bs_new w a t
theorem bs_2_0 (w : World) (a : Array Value) (t : TypeId) (b : Array Value) (u : TypeId) : Bs ((w.alloc (.cells a t)).alloc (.cells b u)) w.heap.size a.toList := (bs_new w a t).low ((Below.refl _ _).alloc (Nat.le_refl _) _)
theorem bs_2_1 (w : World) (a : Array Value) (t : TypeId) (b : Array Value) (u : TypeId) : Bs ((w.alloc (.cells a t)).alloc (.cells b u)) (w.heap.size + 1) b.toList := by
  have := bs_new (w.alloc (.cells a t)) b u
  simpa using this
theorem bs2 {W : World} {b : Nat} {a0 a1 : Value} (h : Bs W b [a0, a1]) : W.cell? ⟨b, 0, none⟩ = some a0 ∧ W.cell? ⟨b, 1, none⟩ = some a1 := ⟨h.2 0 _ rfl, h.2 1 _ rfl⟩
theorem bs4 {W : World} {b : Nat} {a0 a1 a2 a3 : Value} (h : Bs W b [a0, a1, a2, a3]) : W.cell? ⟨b, 0, none⟩ = some a0 ∧ W.cell? ⟨b, 1, none⟩ = some a1 ∧ W.cell? ⟨b, 2, none⟩ = some a2 ∧ W.cell? ⟨b, 3, none⟩ = some a3 := ⟨h.2 0 _ rfl, h.2 1 _ rfl, h.2 2 _ rfl, h.2 3 _ rfl⟩
theorem bs16 {W : World} {b : Nat} {a0 a1 a2 a3 a4 a5 a6 a7 a8 a9 a10 a11 a12 a13 a14 a15 : Value} (h : Bs W b [a0, a1, a2, a3, a4, a5, a6, a7, a8, a9, a10, a11, a12, a13, a14, a15]) : W.cell? ⟨b, 0, none⟩ = some a0 ∧ W.cell? ⟨b, 1, none⟩ = some a1 ∧ W.cell? ⟨b, 2, none⟩ = some a2 ∧ W.cell? ⟨b, 3, none⟩ = some a3 ∧ W.cell? ⟨b, 4, none⟩ = some a4 ∧ W.cell? ⟨b, 5, none⟩ = some a5 ∧ W.cell? ⟨b, 6, none⟩ = some a6 ∧ W.cell? ⟨b, 7, none⟩ = some a7 ∧ W.cell? ⟨b, 8, none⟩ = some a8 ∧ W.cell? ⟨b, 9, none⟩ = some a9 ∧ W.cell? ⟨b, 10, none⟩ = some a10 ∧ W.cell? ⟨b, 11, none⟩ = some a11 ∧ W.cell? ⟨b, 12, none⟩ = some a12 ∧ W.cell? ⟨b, 13, none⟩ = some a13 ∧ W.cell? ⟨b, 14, none⟩ = some a14 ∧ W.cell? ⟨b, 15, none⟩ = some a15 := ⟨h.2 0 _ rfl, h.2 1 _ rfl, h.2 2 _ rfl, h.2 3 _ rfl, h.2 4 _ rfl, h.2 5 _ rfl, h.2 6 _ rfl, h.2 7 _ rfl, h.2 8 _ rfl, h.2 9 _ rfl, h.2 10 _ rfl, h.2 11 _ rfl, h.2 12 _ rfl, h.2 13 _ rfl, h.2 14 _ rfl, h.2 15 _ rfl⟩
def lgB (s : ByteArray) : Bool := decide (127 < s.size)
def knB (mv sd : Int) : Bool := sd == 1 || sd == mv
def hsB (ns sl : Int) : Bool := decide (0 ≤ sl) && decide (sl < ns)
def emB (s : ByteArray) : Bool := s.toList == []
def ttB (mv tk ts : Int) (ty : ByteArray) (tl : Int) : Bool := if tk == 2 then knB mv ts && (!lgB ty && tl == 0) else if tk == 3 then knB mv ts && (emB ty && tl == 0) else false
def tnB (mv ns tk ts : Int) (ty : ByteArray) (tl : Int) : Bool := if lgB ty then false else if tk == 4 then knB mv ts && tl == 0 else if tk == 5 then (mv == 2 && ts == 0) && tl == 0 else if tk == 6 then (mv == 2 && ts == 0) && hsB ns tl else false
def tsB (mv tk ts : Int) (ty : ByteArray) (tl : Int) : Bool := if tk == 1 then ts == 0 && (!lgB ty && tl == 0) else ts == 1 && ttB mv tk ts ty tl
def farB (n : Int) : Bool := decide (n ≤ -1000000000000000000) || decide (1000000000000000000 ≤ n)
def bdB (r n : Int) : Bool := if r == 4 then (n == -1000000000000000000 || !farB n) else if r == 6 then (n == 1000000000000000000 || !farB n) else false
theorem long_any (s : ByteArray) (w : World) (hs : s.size ≤ maxLen) : Calls Tryz.prog 112 #[.string s] w fun e w' => e = .returned (.bool (lgB s)) ∧ Below w.heap.size w w' := by
  unfold maxLen at hs
  have e : decide ((127 : Int) < (s.size : Int)) = lgB s := decide_eq_decide.2 (by omega)
  go_enter Tryz.func112, Tryz.ntmps112
  go_wp2_with fail
  go_ret
  exact ⟨by rw [← e]; rfl, Below.refl _ _⟩
theorem short_any (s : ByteArray) (w : World) (hs : s.size ≤ maxLen) : Calls Tryz.prog 90 #[.string s] w fun e w' => e = .returned (.bool (!lgB s)) ∧ Below w.heap.size w w' := by
  have C := hid (long_any s w hs)
  go_enter Tryz.func90, Tryz.ntmps90
  go_wp2_with fail
  refine C.out.mono ?_
  rintro e w1 ⟨rfl, hb⟩
  have HB := hid hb
  clear hb
  go_wp2_with fail
  go_ret
  exact ⟨rfl, HB.out⟩
set_option maxHeartbeats 4000000 in
set_option maxRecDepth 100000 in
theorem knows_any (mv ns sd : Int) (w : World)  : Calls Tryz.prog 116 #[.agg #[.int .i64 mv, .int .i64 ns], .int .i64 sd] w fun e w' => e = .returned (.bool (knB mv sd)) ∧ Below w.heap.size w w' := by
  cases h1 : (sd == 1)
  · cases h2 : (sd == mv)
    · go_enter Tryz.func116, Tryz.ntmps116
      go_wp2_with fail
      go_ret
      exact ⟨by first | rfl | (simp [knB, h1, h2]), by first | exact Below.refl _ _ | exact (Below.refl _ w).alloc (Nat.le_refl _) _ | exact ((Below.refl _ w).alloc (Nat.le_refl _) _).alloc (by simp) _⟩
    · go_enter Tryz.func116, Tryz.ntmps116
      go_wp2_with fail
      go_ret
      exact ⟨by first | rfl | (simp [knB, h1, h2]), by first | exact Below.refl _ _ | exact (Below.refl _ w).alloc (Nat.le_refl _) _ | exact ((Below.refl _ w).alloc (Nat.le_refl _) _).alloc (by simp) _⟩
  · go_enter Tryz.func116, Tryz.ntmps116
    go_wp2_with fail
    go_ret
    exact ⟨by first | rfl | (simp [knB, h1]), by first | exact Below.refl _ _ | exact (Below.refl _ w).alloc (Nat.le_refl _) _ | exact ((Below.refl _ w).alloc (Nat.le_refl _) _).alloc (by simp) _⟩
set_option maxHeartbeats 4000000 in
set_option maxRecDepth 100000 in
theorem has_any (mv ns sl : Int) (w : World)  : Calls Tryz.prog 91 #[.agg #[.int .i64 mv, .int .i64 ns], .int .i64 sl] w fun e w' => e = .returned (.bool (hsB ns sl)) ∧ Below w.heap.size w w' := by
  cases h1 : (decide (0 ≤ sl))
  · go_enter Tryz.func91, Tryz.ntmps91
    go_wp2_with fail
    go_ret
    exact ⟨by first | rfl | (simp [hsB, h1]), by first | exact Below.refl _ _ | exact (Below.refl _ w).alloc (Nat.le_refl _) _ | exact ((Below.refl _ w).alloc (Nat.le_refl _) _).alloc (by simp) _⟩
  · cases h2 : (decide (sl < ns))
    · go_enter Tryz.func91, Tryz.ntmps91
      go_wp2_with fail
      go_ret
      exact ⟨by first | rfl | (simp [hsB, h1, h2]), by first | exact Below.refl _ _ | exact (Below.refl _ w).alloc (Nat.le_refl _) _ | exact ((Below.refl _ w).alloc (Nat.le_refl _) _).alloc (by simp) _⟩
    · go_enter Tryz.func91, Tryz.ntmps91
      go_wp2_with fail
      go_ret
      exact ⟨by first | rfl | (simp [hsB, h1, h2]), by first | exact Below.refl _ _ | exact (Below.refl _ w).alloc (Nat.le_refl _) _ | exact ((Below.refl _ w).alloc (Nat.le_refl _) _).alloc (by simp) _⟩
set_option maxHeartbeats 4000000 in
set_option maxRecDepth 100000 in
theorem far_any (n : Int) (w : World)  : Calls Tryz.prog 115 #[.int .i64 n] w fun e w' => e = .returned (.bool (farB n)) ∧ Below w.heap.size w w' := by
  cases h1 : (decide (n ≤ -1000000000000000000))
  · cases h2 : (decide (1000000000000000000 ≤ n))
    · go_enter Tryz.func115, Tryz.ntmps115
      go_wp2_with fail
      go_ret
      exact ⟨by first | rfl | (simp [farB, h1, h2]), by first | exact Below.refl _ _ | exact (Below.refl _ w).alloc (Nat.le_refl _) _ | exact ((Below.refl _ w).alloc (Nat.le_refl _) _).alloc (by simp) _⟩
    · go_enter Tryz.func115, Tryz.ntmps115
      go_wp2_with fail
      go_ret
      exact ⟨by first | rfl | (simp [farB, h1, h2]), by first | exact Below.refl _ _ | exact (Below.refl _ w).alloc (Nat.le_refl _) _ | exact ((Below.refl _ w).alloc (Nat.le_refl _) _).alloc (by simp) _⟩
  · go_enter Tryz.func115, Tryz.ntmps115
    go_wp2_with fail
    go_ret
    exact ⟨by first | rfl | (simp [farB, h1]), by first | exact Below.refl _ _ | exact (Below.refl _ w).alloc (Nat.le_refl _) _ | exact ((Below.refl _ w).alloc (Nat.le_refl _) _).alloc (by simp) _⟩
set_option maxHeartbeats 4000000 in
set_option maxRecDepth 100000 in
theorem bounded_any (r n : Int) (w : World)  : Calls Tryz.prog 86 #[.int .i64 r, .int .i64 n] w fun e w' => e = .returned (.bool (bdB r n)) ∧ Below w.heap.size w w' := by
  cases h1 : (r == 4)
  · cases h2 : (r == 6)
    · go_enter Tryz.func86, Tryz.ntmps86
      go_wp2_with fail
      go_ret
      exact ⟨by first | rfl | (simp [bdB, h1, h2]), by first | exact Below.refl _ _ | exact (Below.refl _ w).alloc (Nat.le_refl _) _ | exact ((Below.refl _ w).alloc (Nat.le_refl _) _).alloc (by simp) _⟩
    · cases h3 : (n == 1000000000000000000)
      · cases h4 : (farB n)
        · have LX : Below w.heap.size w w := Below.refl _ _
          go_enter Tryz.func86, Tryz.ntmps86
          go_wp2_with fail
          have C0 := hid (far_any n w)
          rw [h4] at C0
          refine C0.out.mono ?_
          rintro e x1 ⟨rfl, hb0⟩
          have L0 := LX.trans (hb0.mono LX.size)
          have LL0 := hid L0
          clear hb0 C0 
          go_wp2_with fail
          go_ret
          exact ⟨by first | rfl | (simp [bdB, h1, h2, h3, h4]), L0⟩
        · have LX : Below w.heap.size w w := Below.refl _ _
          go_enter Tryz.func86, Tryz.ntmps86
          go_wp2_with fail
          have C0 := hid (far_any n w)
          rw [h4] at C0
          refine C0.out.mono ?_
          rintro e x1 ⟨rfl, hb0⟩
          have L0 := LX.trans (hb0.mono LX.size)
          have LL0 := hid L0
          clear hb0 C0 
          go_wp2_with fail
          go_ret
          exact ⟨by first | rfl | (simp [bdB, h1, h2, h3, h4]), L0⟩
      · go_enter Tryz.func86, Tryz.ntmps86
        go_wp2_with fail
        go_ret
        exact ⟨by first | rfl | (simp [bdB, h1, h2, h3]), by first | exact Below.refl _ _ | exact (Below.refl _ w).alloc (Nat.le_refl _) _ | exact ((Below.refl _ w).alloc (Nat.le_refl _) _).alloc (by simp) _⟩
  · cases h5 : (n == -1000000000000000000)
    · cases h6 : (farB n)
      · have LX : Below w.heap.size w w := Below.refl _ _
        go_enter Tryz.func86, Tryz.ntmps86
        go_wp2_with fail
        have C0 := hid (far_any n w)
        rw [h6] at C0
        refine C0.out.mono ?_
        rintro e x1 ⟨rfl, hb0⟩
        have L0 := LX.trans (hb0.mono LX.size)
        have LL0 := hid L0
        clear hb0 C0 
        go_wp2_with fail
        go_ret
        exact ⟨by first | rfl | (simp [bdB, h1, h5, h6]), L0⟩
      · have LX : Below w.heap.size w w := Below.refl _ _
        go_enter Tryz.func86, Tryz.ntmps86
        go_wp2_with fail
        have C0 := hid (far_any n w)
        rw [h6] at C0
        refine C0.out.mono ?_
        rintro e x1 ⟨rfl, hb0⟩
        have L0 := LX.trans (hb0.mono LX.size)
        have LL0 := hid L0
        clear hb0 C0 
        go_wp2_with fail
        go_ret
        exact ⟨by first | rfl | (simp [bdB, h1, h5, h6]), L0⟩
    · go_enter Tryz.func86, Tryz.ntmps86
      go_wp2_with fail
      go_ret
      exact ⟨by first | rfl | (simp [bdB, h1, h5]), by first | exact Below.refl _ _ | exact (Below.refl _ w).alloc (Nat.le_refl _) _ | exact ((Below.refl _ w).alloc (Nat.le_refl _) _).alloc (by simp) _⟩
end Go.Proofs.YtimmjikpcekffaaGreatDoor.L
namespace Go.Proofs.YtimmjikpcekffaaGreatDoor.L
open Go.RowKit
set_option linter.unusedVariables false
set_option linter.unusedSimpArgs false
set_option maxHeartbeats 4000000 in
set_option maxRecDepth 100000 in
theorem ttext_any (mv ns tk ts : Int) (ty : ByteArray) (tl : Int) (w : World) (hs : ty.size ≤ maxLen) : Calls Tryz.prog 109 #[.agg #[.int .i64 mv, .int .i64 ns], .agg #[.int .i64 tk, .int .i64 ts, .string ty, .int .i64 tl]] w fun e w' => e = .returned (.bool (ttB mv tk ts ty tl)) ∧ Below w.heap.size w w' := by
  have HLX := hid (show Below w.heap.size w ((w.alloc (.cells #[.int .i64 mv, .int .i64 ns] 61)).alloc (.cells #[.int .i64 tk, .int .i64 ts, .string ty, .int .i64 tl] 45)) from (((Below.refl _ w).alloc (by simp) _).alloc (by simp) _))
  have X0 : Bs ((w.alloc (.cells #[.int .i64 mv, .int .i64 ns] 61)).alloc (.cells #[.int .i64 tk, .int .i64 ts, .string ty, .int .i64 tl] 45)) w.heap.size [.int .i64 mv, .int .i64 ns] := by simpa using bs_2_0 w _ _ _ _
  have X1 : Bs ((w.alloc (.cells #[.int .i64 mv, .int .i64 ns] 61)).alloc (.cells #[.int .i64 tk, .int .i64 ts, .string ty, .int .i64 tl] 45)) (w.heap.size + 1) [.int .i64 tk, .int .i64 ts, .string ty, .int .i64 tl] := by simpa using bs_2_1 w _ _ _ _
  go_enter Tryz.func109, Tryz.ntmps109
  go_upto_region 1 with (fail)
  generalize ((w.alloc (.cells #[.int .i64 mv, .int .i64 ns] 61)).alloc (.cells #[.int .i64 tk, .int .i64 ts, .string ty, .int .i64 tl] 45)) = x0 at *
  have c0 := bs2 X0
  have z0 := X0.1
  have c1 := bs4 X1
  have z1 := X1.1
  cases h1 : (tk == 2)
  · cases h2 : (tk == 3)
    · go_wp2_with fail
      go_ret
      exact ⟨by first | rfl | (simp [ttB, emB, h1, h2]), HLX.out⟩
    · have C := hid (knows_any mv ns ts x0)
      go_wp2_with fail
      refine C.out.mono ?_
      rintro e x1 ⟨rfl, hb⟩
      replace HLX := hid (HLX.out.trans (hb.mono HLX.out.size))
      replace X0 := X0.low hb
      replace X1 := X1.low hb
      clear hb C
      clear c0 z0
      have c0 := bs2 X0
      have z0 := X0.1
      clear c1 z1
      have c1 := bs4 X1
      have z1 := X1.1
      cases h3 : (knB mv ts)
      · go_wp2_with fail
        go_ret
        exact ⟨by first | rfl | (simp [ttB, emB, h1, h2, h3]), HLX.out⟩
      · cases h4 : (ty.toList == [])
        · go_wp2_with fail
          go_ret
          exact ⟨by first | rfl | (simp [ttB, emB, h1, h2, h3, h4]), HLX.out⟩
        · cases h5 : (tl == 0)
          · go_wp2_with fail
            go_ret
            exact ⟨by first | rfl | (simp [ttB, emB, h1, h2, h3, h4, h5]), HLX.out⟩
          · go_wp2_with fail
            go_ret
            exact ⟨by first | rfl | (simp [ttB, emB, h1, h2, h3, h4, h5]), HLX.out⟩
  · have C := hid (knows_any mv ns ts x0)
    go_wp2_with fail
    refine C.out.mono ?_
    rintro e x1 ⟨rfl, hb⟩
    replace HLX := hid (HLX.out.trans (hb.mono HLX.out.size))
    replace X0 := X0.low hb
    replace X1 := X1.low hb
    clear hb C
    clear c0 z0
    have c0 := bs2 X0
    have z0 := X0.1
    clear c1 z1
    have c1 := bs4 X1
    have z1 := X1.1
    cases h6 : (knB mv ts)
    · go_wp2_with fail
      go_ret
      exact ⟨by first | rfl | (simp [ttB, emB, h1, h6]), HLX.out⟩
    · have C := hid (short_any ty x1 hs)
      go_wp2_with fail
      refine C.out.mono ?_
      rintro e x2 ⟨rfl, hb⟩
      replace HLX := hid (HLX.out.trans (hb.mono HLX.out.size))
      replace X0 := X0.low hb
      replace X1 := X1.low hb
      clear hb C
      clear c0 z0
      have c0 := bs2 X0
      have z0 := X0.1
      clear c1 z1
      have c1 := bs4 X1
      have z1 := X1.1
      cases h7 : (!lgB ty)
      · go_wp2_with fail
        go_ret
        exact ⟨by first | rfl | (simp [ttB, emB, h1, h6, h7]), HLX.out⟩
      · cases h8 : (tl == 0)
        · go_wp2_with fail
          go_ret
          exact ⟨by first | rfl | (simp [ttB, emB, h1, h6, h7, h8]), HLX.out⟩
        · go_wp2_with fail
          go_ret
          exact ⟨by first | rfl | (simp [ttB, emB, h1, h6, h7, h8]), HLX.out⟩
set_option maxHeartbeats 4000000 in
set_option maxRecDepth 100000 in
theorem tnum_any (mv ns tk ts : Int) (ty : ByteArray) (tl : Int) (w : World) (hs : ty.size ≤ maxLen) : Calls Tryz.prog 85 #[.agg #[.int .i64 mv, .int .i64 ns], .agg #[.int .i64 tk, .int .i64 ts, .string ty, .int .i64 tl]] w fun e w' => e = .returned (.bool (tnB mv ns tk ts ty tl)) ∧ Below w.heap.size w w' := by
  have HLX := hid (show Below w.heap.size w ((w.alloc (.cells #[.int .i64 mv, .int .i64 ns] 61)).alloc (.cells #[.int .i64 tk, .int .i64 ts, .string ty, .int .i64 tl] 45)) from (((Below.refl _ w).alloc (by simp) _).alloc (by simp) _))
  have X0 : Bs ((w.alloc (.cells #[.int .i64 mv, .int .i64 ns] 61)).alloc (.cells #[.int .i64 tk, .int .i64 ts, .string ty, .int .i64 tl] 45)) w.heap.size [.int .i64 mv, .int .i64 ns] := by simpa using bs_2_0 w _ _ _ _
  have X1 : Bs ((w.alloc (.cells #[.int .i64 mv, .int .i64 ns] 61)).alloc (.cells #[.int .i64 tk, .int .i64 ts, .string ty, .int .i64 tl] 45)) (w.heap.size + 1) [.int .i64 tk, .int .i64 ts, .string ty, .int .i64 tl] := by simpa using bs_2_1 w _ _ _ _
  go_enter Tryz.func85, Tryz.ntmps85
  go_upto_region 1 with (fail)
  generalize ((w.alloc (.cells #[.int .i64 mv, .int .i64 ns] 61)).alloc (.cells #[.int .i64 tk, .int .i64 ts, .string ty, .int .i64 tl] 45)) = x0 at *
  have c0 := bs2 X0
  have z0 := X0.1
  have c1 := bs4 X1
  have z1 := X1.1
  have C := hid (long_any ty x0 hs)
  go_wp2_with fail
  refine C.out.mono ?_
  rintro e x1 ⟨rfl, hb⟩
  replace HLX := hid (HLX.out.trans (hb.mono HLX.out.size))
  replace X0 := X0.low hb
  replace X1 := X1.low hb
  clear hb C
  clear c0 z0
  have c0 := bs2 X0
  have z0 := X0.1
  clear c1 z1
  have c1 := bs4 X1
  have z1 := X1.1
  cases h1 : (lgB ty)
  · cases h2 : (mv == 2)
    · cases h3 : (tk == 4)
      · cases h4 : (tk == 5)
        · cases h5 : (tk == 6)
          · go_wp2_with fail
            go_ret
            exact ⟨by first | rfl | (simp [tnB, h1, h2, h3, h4, h5]), HLX.out⟩
          · go_wp2_with fail
            go_ret
            exact ⟨by first | rfl | (simp [tnB, h1, h2, h3, h4, h5]), HLX.out⟩
        · go_wp2_with fail
          go_ret
          exact ⟨by first | rfl | (simp [tnB, h1, h2, h3, h4]), HLX.out⟩
      · have C := hid (knows_any mv ns ts x1)
        go_wp2_with fail
        refine C.out.mono ?_
        rintro e x2 ⟨rfl, hb⟩
        replace HLX := hid (HLX.out.trans (hb.mono HLX.out.size))
        replace X0 := X0.low hb
        replace X1 := X1.low hb
        clear hb C
        clear c0 z0
        have c0 := bs2 X0
        have z0 := X0.1
        clear c1 z1
        have c1 := bs4 X1
        have z1 := X1.1
        cases h6 : (knB mv ts)
        · go_wp2_with fail
          go_ret
          exact ⟨by first | rfl | (simp [tnB, h1, h2, h3, h6]), HLX.out⟩
        · cases h7 : (tl == 0)
          · go_wp2_with fail
            go_ret
            exact ⟨by first | rfl | (simp [tnB, h1, h2, h3, h6, h7]), HLX.out⟩
          · go_wp2_with fail
            go_ret
            exact ⟨by first | rfl | (simp [tnB, h1, h2, h3, h6, h7]), HLX.out⟩
    · cases h8 : (ts == 0)
      · cases h9 : (tk == 4)
        · cases h10 : (tk == 5)
          · cases h11 : (tk == 6)
            · go_wp2_with fail
              go_ret
              exact ⟨by first | rfl | (simp [tnB, h1, h2, h8, h9, h10, h11]), HLX.out⟩
            · go_wp2_with fail
              go_ret
              exact ⟨by first | rfl | (simp [tnB, h1, h2, h8, h9, h10, h11]), HLX.out⟩
          · go_wp2_with fail
            go_ret
            exact ⟨by first | rfl | (simp [tnB, h1, h2, h8, h9, h10]), HLX.out⟩
        · have C := hid (knows_any mv ns ts x1)
          go_wp2_with fail
          refine C.out.mono ?_
          rintro e x2 ⟨rfl, hb⟩
          replace HLX := hid (HLX.out.trans (hb.mono HLX.out.size))
          replace X0 := X0.low hb
          replace X1 := X1.low hb
          clear hb C
          clear c0 z0
          have c0 := bs2 X0
          have z0 := X0.1
          clear c1 z1
          have c1 := bs4 X1
          have z1 := X1.1
          cases h12 : (knB mv ts)
          · go_wp2_with fail
            go_ret
            exact ⟨by first | rfl | (simp [tnB, h1, h2, h8, h9, h12]), HLX.out⟩
          · cases h13 : (tl == 0)
            · go_wp2_with fail
              go_ret
              exact ⟨by first | rfl | (simp [tnB, h1, h2, h8, h9, h12, h13]), HLX.out⟩
            · go_wp2_with fail
              go_ret
              exact ⟨by first | rfl | (simp [tnB, h1, h2, h8, h9, h12, h13]), HLX.out⟩
      · cases h14 : (tk == 4)
        · cases h15 : (tk == 5)
          · cases h16 : (tk == 6)
            · go_wp2_with fail
              go_ret
              exact ⟨by first | rfl | (simp [tnB, h1, h2, h8, h14, h15, h16]), HLX.out⟩
            · have C := hid (has_any mv ns tl x1)
              go_wp2_with fail
              refine C.out.mono ?_
              rintro e x2 ⟨rfl, hb⟩
              replace HLX := hid (HLX.out.trans (hb.mono HLX.out.size))
              replace X0 := X0.low hb
              replace X1 := X1.low hb
              clear hb C
              clear c0 z0
              have c0 := bs2 X0
              have z0 := X0.1
              clear c1 z1
              have c1 := bs4 X1
              have z1 := X1.1
              cases h17 : (hsB ns tl)
              · go_wp2_with fail
                go_ret
                exact ⟨by first | rfl | (simp [tnB, h1, h2, h8, h14, h15, h16, h17]), HLX.out⟩
              · go_wp2_with fail
                go_ret
                exact ⟨by first | rfl | (simp [tnB, h1, h2, h8, h14, h15, h16, h17]), HLX.out⟩
          · cases h18 : (tl == 0)
            · go_wp2_with fail
              go_ret
              exact ⟨by first | rfl | (simp [tnB, h1, h2, h8, h14, h15, h18]), HLX.out⟩
            · go_wp2_with fail
              go_ret
              exact ⟨by first | rfl | (simp [tnB, h1, h2, h8, h14, h15, h18]), HLX.out⟩
        · have C := hid (knows_any mv ns ts x1)
          go_wp2_with fail
          refine C.out.mono ?_
          rintro e x2 ⟨rfl, hb⟩
          replace HLX := hid (HLX.out.trans (hb.mono HLX.out.size))
          replace X0 := X0.low hb
          replace X1 := X1.low hb
          clear hb C
          clear c0 z0
          have c0 := bs2 X0
          have z0 := X0.1
          clear c1 z1
          have c1 := bs4 X1
          have z1 := X1.1
          cases h19 : (knB mv ts)
          · go_wp2_with fail
            go_ret
            exact ⟨by first | rfl | (simp [tnB, h1, h2, h8, h14, h19]), HLX.out⟩
          · cases h20 : (tl == 0)
            · go_wp2_with fail
              go_ret
              exact ⟨by first | rfl | (simp [tnB, h1, h2, h8, h14, h19, h20]), HLX.out⟩
            · go_wp2_with fail
              go_ret
              exact ⟨by first | rfl | (simp [tnB, h1, h2, h8, h14, h19, h20]), HLX.out⟩
  · go_wp2_with fail
    go_ret
    exact ⟨by first | rfl | (simp [tnB, h1]), HLX.out⟩
set_option maxHeartbeats 4000000 in
set_option maxRecDepth 100000 in
theorem tsought_any (mv ns tk ts : Int) (ty : ByteArray) (tl : Int) (w : World) (hs : ty.size ≤ maxLen) : Calls Tryz.prog 89 #[.agg #[.int .i64 mv, .int .i64 ns], .agg #[.int .i64 tk, .int .i64 ts, .string ty, .int .i64 tl]] w fun e w' => e = .returned (.bool (tsB mv tk ts ty tl)) ∧ Below w.heap.size w w' := by
  have HLX := hid (show Below w.heap.size w ((w.alloc (.cells #[.int .i64 mv, .int .i64 ns] 61)).alloc (.cells #[.int .i64 tk, .int .i64 ts, .string ty, .int .i64 tl] 45)) from (((Below.refl _ w).alloc (by simp) _).alloc (by simp) _))
  have X0 : Bs ((w.alloc (.cells #[.int .i64 mv, .int .i64 ns] 61)).alloc (.cells #[.int .i64 tk, .int .i64 ts, .string ty, .int .i64 tl] 45)) w.heap.size [.int .i64 mv, .int .i64 ns] := by simpa using bs_2_0 w _ _ _ _
  have X1 : Bs ((w.alloc (.cells #[.int .i64 mv, .int .i64 ns] 61)).alloc (.cells #[.int .i64 tk, .int .i64 ts, .string ty, .int .i64 tl] 45)) (w.heap.size + 1) [.int .i64 tk, .int .i64 ts, .string ty, .int .i64 tl] := by simpa using bs_2_1 w _ _ _ _
  go_enter Tryz.func89, Tryz.ntmps89
  go_upto_region 1 with (fail)
  generalize ((w.alloc (.cells #[.int .i64 mv, .int .i64 ns] 61)).alloc (.cells #[.int .i64 tk, .int .i64 ts, .string ty, .int .i64 tl] 45)) = x0 at *
  have c0 := bs2 X0
  have z0 := X0.1
  have c1 := bs4 X1
  have z1 := X1.1
  cases h1 : (tk == 1)
  · cases h2 : (ts == 1)
    · go_wp2_with fail
      go_ret
      exact ⟨by first | rfl | (simp [tsB, h1, h2]), HLX.out⟩
    · have C := hid (ttext_any mv ns tk ts ty tl x0 hs)
      go_wp2_with fail
      refine C.out.mono ?_
      rintro e x1 ⟨rfl, hb⟩
      replace HLX := hid (HLX.out.trans (hb.mono HLX.out.size))
      replace X0 := X0.low hb
      replace X1 := X1.low hb
      clear hb C
      clear c0 z0
      have c0 := bs2 X0
      have z0 := X0.1
      clear c1 z1
      have c1 := bs4 X1
      have z1 := X1.1
      cases h3 : (ttB mv tk ts ty tl)
      · go_wp2_with fail
        go_ret
        exact ⟨by first | rfl | (simp [tsB, h1, h2, h3]), HLX.out⟩
      · go_wp2_with fail
        go_ret
        exact ⟨by first | rfl | (simp [tsB, h1, h2, h3]), HLX.out⟩
  · cases h4 : (ts == 0)
    · go_wp2_with fail
      go_ret
      exact ⟨by first | rfl | (simp [tsB, h1, h4]), HLX.out⟩
    · have C := hid (short_any ty x0 hs)
      go_wp2_with fail
      refine C.out.mono ?_
      rintro e x1 ⟨rfl, hb⟩
      replace HLX := hid (HLX.out.trans (hb.mono HLX.out.size))
      replace X0 := X0.low hb
      replace X1 := X1.low hb
      clear hb C
      clear c0 z0
      have c0 := bs2 X0
      have z0 := X0.1
      clear c1 z1
      have c1 := bs4 X1
      have z1 := X1.1
      cases h5 : (!lgB ty)
      · go_wp2_with fail
        go_ret
        exact ⟨by first | rfl | (simp [tsB, h1, h4, h5]), HLX.out⟩
      · cases h6 : (tl == 0)
        · go_wp2_with fail
          go_ret
          exact ⟨by first | rfl | (simp [tsB, h1, h4, h5, h6]), HLX.out⟩
        · go_wp2_with fail
          go_ret
          exact ⟨by first | rfl | (simp [tsB, h1, h4, h5, h6]), HLX.out⟩
end Go.Proofs.YtimmjikpcekffaaGreatDoor.L
