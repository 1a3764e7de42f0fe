import Derived.Test.YtimmjikpcekffaaGreatDoorNv8
import Derived.Test.YtimmjikpcekffaaGreatDoorNv6
import Derived.Laws.Tables
import Derived.Deep.MidRow
namespace Go.Proofs.YtimmjikpcekffaaGreatDoor.L
open Go.RowKit
set_option linter.unusedVariables false
set_option linter.unusedSimpArgs false
theorem tlit_any (mv ns : Int) (kd tk ts : Int) (ty : ByteArray) (tl rl nu : Int) (xa : Option Addr) (xn xc : Nat) (na : Option Addr) (nn nc : Nat) (ok os : Int) (oy : ByteArray) (ol of : Int) (ky : ByteArray) (sl : Int) (tx : List ByteArray) (nm : List Int) (w : World) (hs : ty.size ≤ maxLen) (ho : oy.size ≤ maxLen) (hy : ky.size ≤ maxLen) (hx : xn = tx.length) (hn : nn = nm.length) (rx : RdS w xa tx) (rn : RdI w na nm) (bx : xn ≤ 140737488355328) (bn : nn ≤ 140737488355328) (hz : ∀ k, (tx.getD k ByteArray.empty).size ≤ maxLen) : Calls Tryz.prog 56 #[.agg #[.int .i64 mv, .int .i64 ns], .agg #[.int .i64 kd, .int .i64 tk, .int .i64 ts, .string ty, .int .i64 tl, .int .i64 rl, .int .i64 nu, .slice xa xn xc, .slice na nn nc, .int .i64 ok, .int .i64 os, .string oy, .int .i64 ol, .int .i64 of, .string ky, .int .i64 sl]] w fun e w' => (∃ b, e = .returned (.bool b) ∧ (b = true ↔ LitP mv ns kd tk ts ty tl rl nu xa xn xc na nn nc ok os oy ol of ky sl tx nm)) ∧ Below w.heap.size w w' := by
  cases hm : (mv == 2)
  · cases k1 : (kd == 1)
    · cases k2 : (kd == 2)
      · cases k3 : (kd == 3)
        · cases k4 : (kd == 4)
          · cases k5 : (kd == 5)
            · cases k6 : (kd == 6)
              · cases k7 : (kd == 7)
                · exact tlit_0_8 mv ns kd tk ts ty tl rl nu xa xn xc na nn nc ok os oy ol of ky sl tx nm w hm k1 k2 k3 k4 k5 k6 k7 hs ho hy hx hn rx rn bx bn hz
                · exact tlit_0_7 mv ns kd tk ts ty tl rl nu xa xn xc na nn nc ok os oy ol of ky sl tx nm w hm k1 k2 k3 k4 k5 k6 k7 hs ho hy hx hn rx rn bx bn hz
              · exact tlit_0_6 mv ns kd tk ts ty tl rl nu xa xn xc na nn nc ok os oy ol of ky sl tx nm w hm k1 k2 k3 k4 k5 k6 hs ho hy hx hn rx rn bx bn hz
            · exact tlit_0_5 mv ns kd tk ts ty tl rl nu xa xn xc na nn nc ok os oy ol of ky sl tx nm w hm k1 k2 k3 k4 k5 hs ho hy hx hn rx rn bx bn hz
          · exact tlit_0_4 mv ns kd tk ts ty tl rl nu xa xn xc na nn nc ok os oy ol of ky sl tx nm w hm k1 k2 k3 k4 hs ho hy hx hn rx rn bx bn hz
        · exact tlit_0_3 mv ns kd tk ts ty tl rl nu xa xn xc na nn nc ok os oy ol of ky sl tx nm w hm k1 k2 k3 hs ho hy hx hn rx rn bx bn hz
      · exact tlit_0_2 mv ns kd tk ts ty tl rl nu xa xn xc na nn nc ok os oy ol of ky sl tx nm w hm k1 k2 hs ho hy hx hn rx rn bx bn hz
    · exact tlit_0_1 mv ns kd tk ts ty tl rl nu xa xn xc na nn nc ok os oy ol of ky sl tx nm w hm k1 hs ho hy hx hn rx rn bx bn hz
  · cases k1 : (kd == 1)
    · cases k2 : (kd == 2)
      · cases k3 : (kd == 3)
        · cases k4 : (kd == 4)
          · cases k5 : (kd == 5)
            · cases k6 : (kd == 6)
              · cases k7 : (kd == 7)
                · exact tlit_1_8 mv ns kd tk ts ty tl rl nu xa xn xc na nn nc ok os oy ol of ky sl tx nm w hm k1 k2 k3 k4 k5 k6 k7 hs ho hy hx hn rx rn bx bn hz
                · exact tlit_1_7 mv ns kd tk ts ty tl rl nu xa xn xc na nn nc ok os oy ol of ky sl tx nm w hm k1 k2 k3 k4 k5 k6 k7 hs ho hy hx hn rx rn bx bn hz
              · exact tlit_1_6 mv ns kd tk ts ty tl rl nu xa xn xc na nn nc ok os oy ol of ky sl tx nm w hm k1 k2 k3 k4 k5 k6 hs ho hy hx hn rx rn bx bn hz
            · exact tlit_1_5 mv ns kd tk ts ty tl rl nu xa xn xc na nn nc ok os oy ol of ky sl tx nm w hm k1 k2 k3 k4 k5 hs ho hy hx hn rx rn bx bn hz
          · exact tlit_1_4 mv ns kd tk ts ty tl rl nu xa xn xc na nn nc ok os oy ol of ky sl tx nm w hm k1 k2 k3 k4 hs ho hy hx hn rx rn bx bn hz
        · exact tlit_1_3 mv ns kd tk ts ty tl rl nu xa xn xc na nn nc ok os oy ol of ky sl tx nm w hm k1 k2 k3 hs ho hy hx hn rx rn bx bn hz
      · exact tlit_1_2 mv ns kd tk ts ty tl rl nu xa xn xc na nn nc ok os oy ol of ky sl tx nm w hm k1 k2 hs ho hy hx hn rx rn bx bn hz
    · exact tlit_1_1 mv ns kd tk ts ty tl rl nu xa xn xc na nn nc ok os oy ol of ky sl tx nm w hm k1 hs ho hy hx hn rx rn bx bn hz
end Go.Proofs.YtimmjikpcekffaaGreatDoor.L
namespace Go.Proofs.YtimmjikpcekffaaGreatDoor.L
open Go.RowKit
set_option linter.unusedVariables false
set_option linter.unusedSimpArgs false
/-- A part without a sign and a literal. -/
def BareP (pn : Bool) (kd tk ts : Int) (ty : ByteArray) (tl rl nu : Int) (xa : Option Addr) (xn xc : Nat) (na : Option Addr) (nn nc : Nat) (ok os : Int) (oy : ByteArray) (ol of : Int) (ky : ByteArray) (sl : Int) : Prop := pn = false ∧ Same kd tk ts ty tl rl nu xa xn xc na nn nc ok os oy ol of ky sl 0 0 0 ByteArray.empty 0 0 0 none 0 0 none 0 0 0 0 ByteArray.empty 0 0 ByteArray.empty 0
/-- A part that may stand in a place, whatever its kids are. -/
def PartP (mv ns pk : Int) (pn : Bool) (kd tk ts : Int) (ty : ByteArray) (tl rl nu : Int) (xa : Option Addr) (xn xc : Nat) (na : Option Addr) (nn nc : Nat) (ok os : Int) (oy : ByteArray) (ol of : Int) (ky : ByteArray) (sl : Int) (kn : Nat) (tx : List ByteArray) (nm : List Int) : Prop :=
  if (pk == 1) = true then ((kn : Int) == 0) = true ∧ BareP pn kd tk ts ty tl rl nu xa xn xc na nn nc ok os oy ol of ky sl
  else if (pk == 2) = true then ((kn : Int) == 0) = true ∧ BareP pn kd tk ts ty tl rl nu xa xn xc na nn nc ok os oy ol of ky sl
  else if (pk == 3) = true then decide ((2 : Int) ≤ (kn : Int)) = true ∧ BareP pn kd tk ts ty tl rl nu xa xn xc na nn nc ok os oy ol of ky sl
  else if (pk == 4) = true then decide ((2 : Int) ≤ (kn : Int)) = true ∧ BareP pn kd tk ts ty tl rl nu xa xn xc na nn nc ok os oy ol of ky sl
  else if (pk == 5) = true then ((kn : Int) == 0) = true ∧ LitP mv ns kd tk ts ty tl rl nu xa xn xc na nn nc ok os oy ol of ky sl tx nm
  else False
set_option maxHeartbeats 16000000 in
set_option maxRecDepth 100000 in
theorem bare_any (pk : Int) (pn : Bool) (kd tk ts : Int) (ty : ByteArray) (tl rl nu : Int) (xa : Option Addr) (xn xc : Nat) (na : Option Addr) (nn nc : Nat) (ok os : Int) (oy : ByteArray) (ol of : Int) (ky : ByteArray) (sl : Int) (ka : Option Addr) (kn kc : Nat) (w : World)  : Calls Tryz.prog 55 #[.agg #[.int .i64 pk, .bool pn, .int .i64 kd, .int .i64 tk, .int .i64 ts, .string ty, .int .i64 tl, .int .i64 rl, .int .i64 nu, .slice xa xn xc, .slice na nn nc, .int .i64 ok, .int .i64 os, .string oy, .int .i64 ol, .int .i64 of, .string ky, .int .i64 sl, .slice ka kn kc]] w fun e w' => (∃ b, e = .returned (.bool b) ∧ (b = true ↔ BareP pn kd tk ts ty tl rl nu xa xn xc na nn nc ok os oy ol of ky sl)) ∧ Below w.heap.size w w' := by
  cases h1 : (pn)
  · have LX : Below w.heap.size w (w.alloc (.cells #[.int .i64 pk, .bool false, .int .i64 kd, .int .i64 tk, .int .i64 ts, .string ty, .int .i64 tl, .int .i64 rl, .int .i64 nu, .slice xa xn xc, .slice na nn nc, .int .i64 ok, .int .i64 os, .string oy, .int .i64 ol, .int .i64 of, .string ky, .int .i64 sl, .slice ka kn kc] 51)) := ((Below.refl _ w).alloc (by simp) _)
    have X0 : Bs (w.alloc (.cells #[.int .i64 pk, .bool false, .int .i64 kd, .int .i64 tk, .int .i64 ts, .string ty, .int .i64 tl, .int .i64 rl, .int .i64 nu, .slice xa xn xc, .slice na nn nc, .int .i64 ok, .int .i64 os, .string oy, .int .i64 ol, .int .i64 of, .string ky, .int .i64 sl, .slice ka kn kc] 51)) w.heap.size [.int .i64 pk, .bool false, .int .i64 kd, .int .i64 tk, .int .i64 ts, .string ty, .int .i64 tl, .int .i64 rl, .int .i64 nu, .slice xa xn xc, .slice na nn nc, .int .i64 ok, .int .i64 os, .string oy, .int .i64 ol, .int .i64 of, .string ky, .int .i64 sl, .slice ka kn kc] := by simpa using bs_1_0 w #[.int .i64 pk, .bool false, .int .i64 kd, .int .i64 tk, .int .i64 ts, .string ty, .int .i64 tl, .int .i64 rl, .int .i64 nu, .slice xa xn xc, .slice na nn nc, .int .i64 ok, .int .i64 os, .string oy, .int .i64 ol, .int .i64 of, .string ky, .int .i64 sl, .slice ka kn kc] 51
    have HLX := hid LX
    clear LX
    go_enter Tryz.func55, Tryz.ntmps55
    go_wp2_with fail
    generalize (w.alloc (.cells #[.int .i64 pk, .bool false, .int .i64 kd, .int .i64 tk, .int .i64 ts, .string ty, .int .i64 tl, .int .i64 rl, .int .i64 nu, .slice xa xn xc, .slice na nn nc, .int .i64 ok, .int .i64 os, .string oy, .int .i64 ol, .int .i64 of, .string ky, .int .i64 sl, .slice ka kn kc] 51)) = x0 at *
    have C0 := hid (same_any kd tk ts ty tl rl nu xa xn xc na nn nc ok os oy ol of ky sl 0 0 0 ByteArray.empty 0 0 0 none 0 0 none 0 0 0 0 ByteArray.empty 0 0 ByteArray.empty 0 x0)
    refine C0.out.mono ?_
    rintro e x1 ⟨⟨bb, rfl, ebb⟩, hb0⟩
    replace HLX := hid (HLX.out.trans (hb0.mono HLX.out.size))
    have EBB := hid ebb
    clear ebb
    have X0 := X0.low hb0
    have c0_0_0 := X0.2 0 _ rfl
    have c0_0_1 := X0.2 1 _ rfl
    have c0_0_2 := X0.2 2 _ rfl
    have c0_0_3 := X0.2 3 _ rfl
    have c0_0_4 := X0.2 4 _ rfl
    have c0_0_5 := X0.2 5 _ rfl
    have c0_0_6 := X0.2 6 _ rfl
    have c0_0_7 := X0.2 7 _ rfl
    have c0_0_8 := X0.2 8 _ rfl
    have c0_0_9 := X0.2 9 _ rfl
    have c0_0_10 := X0.2 10 _ rfl
    have c0_0_11 := X0.2 11 _ rfl
    have c0_0_12 := X0.2 12 _ rfl
    have c0_0_13 := X0.2 13 _ rfl
    have c0_0_14 := X0.2 14 _ rfl
    have c0_0_15 := X0.2 15 _ rfl
    have c0_0_16 := X0.2 16 _ rfl
    have c0_0_17 := X0.2 17 _ rfl
    have c0_0_18 := X0.2 18 _ rfl
    have z0_0 := X0.1
    clear hb0 C0
    go_wp2_with fail
    go_ret
    refine ⟨⟨_, rfl, ?_⟩, HLX.out⟩
    rw [EBB.out]
    clear X0
    unfold BareP
    simp [h1]
  · have LX : Below w.heap.size w (w.alloc (.cells #[.int .i64 pk, .bool true, .int .i64 kd, .int .i64 tk, .int .i64 ts, .string ty, .int .i64 tl, .int .i64 rl, .int .i64 nu, .slice xa xn xc, .slice na nn nc, .int .i64 ok, .int .i64 os, .string oy, .int .i64 ol, .int .i64 of, .string ky, .int .i64 sl, .slice ka kn kc] 51)) := ((Below.refl _ w).alloc (by simp) _)
    have HLX := hid LX
    clear LX
    go_enter Tryz.func55, Tryz.ntmps55
    go_wp2_with fail
    go_ret
    refine ⟨⟨_, rfl, ?_⟩, HLX.out⟩
    unfold BareP
    simp [h1]
end Go.Proofs.YtimmjikpcekffaaGreatDoor.L
namespace Go.Proofs.YtimmjikpcekffaaGreatDoor.L
open Go.RowKit
set_option linter.unusedVariables false
set_option linter.unusedSimpArgs false
/-- A literal. -/
structure Ltr where
  kd : Int
  tk : Int
  ts : Int
  ty : ByteArray
  tl : Int
  rl : Int
  nu : Int
  tx : List ByteArray
  nm : List Int
  ok : Int
  os : Int
  oy : ByteArray
  ol : Int
  of : Int
  ky : ByteArray
  sl : Int
/-- A part of a plan. -/
structure Pp where
  pk : Int
  pn : Bool
  l : Ltr
  ks : List Int
def ltr0 : Ltr := ⟨0, 0, 0, ByteArray.empty, 0, 0, 0, [], [], 0, 0, ByteArray.empty, 0, 0, ByteArray.empty, 0⟩
def pp0 : Pp := ⟨0, false, ltr0, []⟩
def pp (T : List Pp) (k : Nat) : Pp := T.getD k pp0
def pvs (p : Pp) (xa : Option Addr) (xc : Nat) (na : Option Addr) (nc : Nat) (ka : Option Addr) (kc : Nat) : List Value := [.int .i64 p.pk, .bool p.pn, .int .i64 p.l.kd, .int .i64 p.l.tk, .int .i64 p.l.ts, .string p.l.ty, .int .i64 p.l.tl, .int .i64 p.l.rl, .int .i64 p.l.nu, .slice xa p.l.tx.length xc, .slice na p.l.nm.length nc, .int .i64 p.l.ok, .int .i64 p.l.os, .string p.l.oy, .int .i64 p.l.ol, .int .i64 p.l.of, .string p.l.ky, .int .i64 p.l.sl, .slice ka p.ks.length kc]
/-- A list of a plan's parts that can be read. -/
def PQ (w : World) (a : Option Addr) (T : List Pp) : Prop := T.length = 0 ∨ ∃ b off, a = some ⟨b, off, none⟩ ∧ b < w.heap.size ∧ ∀ j, j < T.length → ∃ xa xc na nc ka kc,
  (∀ i v, (pvs (pp T j) xa xc na nc ka kc)[i]? = some v → w.cell? ⟨b, off + j * 19 + i, none⟩ = some v) ∧ RdS w xa (pp T j).l.tx ∧ RdI w na (pp T j).l.nm ∧ RdI w ka (pp T j).ks
theorem PQ.low {w w' : World} {a : Option Addr} {T : List Pp} (h : PQ w a T) (k : Below w.heap.size w w') : PQ w' a T := by
  rcases h with h | ⟨b, off, rfl, h2, h3⟩
  · exact Or.inl h
  · refine Or.inr ⟨b, off, rfl, Nat.lt_of_lt_of_le h2 k.size, fun j hj => ?_⟩
    obtain ⟨xa, xc, na, nc, ka, kc, c, r1, r2, r3⟩ := h3 j hj
    exact ⟨xa, xc, na, nc, ka, kc, fun i v hv => (k.cell (p := ⟨b, off + j * 19 + i, none⟩) h2).trans (c i v hv), r1.low k (Nat.le_refl _), r2.low k (Nat.le_refl _), r3.low k (Nat.le_refl _)⟩
theorem infoPP : (Tryz.prog.info? 51).map (·.size) = some 19 := by kernel_rfl
theorem new_row (w : World) (Z cs : Array Value) (t : TypeId) : Below w.heap.size w ((w.alloc (.cells Z t)).setRow w.heap.size cs) ∧ ((w.alloc (.cells Z t)).setRow w.heap.size cs).heap.size = w.heap.size + 1 ∧ Bs ((w.alloc (.cells Z t)).setRow w.heap.size cs) w.heap.size cs.toList := by
  have hx := setRow_heap (w.alloc (.cells Z t)) w.heap.size Z cs _ _ (heap_alloc_new w (.cells Z t))
  have hz : (w.alloc (.cells Z t)).heap.size = w.heap.size + 1 := by simp
  refine ⟨⟨rfl, rfl, rfl, by rw [setRow_size, hz]; omega, fun k hk => (setRow_other _ _ _ _ (Nat.ne_of_lt hk)).trans ((belowA w _).block k hk)⟩, by rw [setRow_size, hz], ?_, fun j v hv => ?_⟩
  · rw [setRow_size, hz]; omega
  · rw [cell_of_row _ w.heap.size j _ _ _ hx]
    simpa using hv
theorem over_new {F : World → Prop} {w : World} {Z cs : Array Value} {t : TypeId} (h : ∀ X, Below w.heap.size w X → X.heap.size = w.heap.size + 1 → Bs X w.heap.size cs.toList → F X) : F ((w.alloc (.cells Z t)).setRow w.heap.size cs) := by
  obtain ⟨h1, h2, h3⟩ := new_row w Z cs t
  exact h _ h1 h2 h3
/-- The first k parts' measure, and the length on top. -/
def meA (T : List Pp) : Nat → Nat
  | 0 => T.length
  | k + 1 => meA T k + ((pp T k).l.tx.length + (pp T k).l.nm.length)
def meL (T : List Pp) : Nat := meA T T.length
theorem meA_le (T : List Pp) {j k : Nat} (h : j ≤ k) : meA T j ≤ meA T k := by
  induction k with
  | zero => have : j = 0 := by omega
            subst this; exact Nat.le_refl _
  | succ k ih =>
    by_cases e : j = k + 1
    · subst e; exact Nat.le_refl _
    · exact Nat.le_trans (ih (by omega)) (Nat.le_add_right _ _)
set_option maxHeartbeats 16000000 in
set_option maxRecDepth 100000 in
theorem measure_any (a : Option Addr) (T : List Pp) (L cap : Nat) (hLe : L = T.length) (w : World) (hT : PQ w a T) (hM : meL T ≤ 4611686018427387904) :
    Calls Tryz.prog 19 #[.slice a L cap] w fun e w' => e = .returned (.int .i64 (meL T : Nat)) ∧ Below w.heap.size w w' := by
  have HT := hid hT
  have HL := hid hLe
  have HM := hid hM
  have hL : L ≤ 4611686018427387904 := by
    have := meA_le T (Nat.zero_le T.length)
    unfold meL at hM
    simp only [meA] at this
    omega
  clear hT hLe hM
  go_enter Tryz.func19, Tryz.ntmps19
  go_wp2_with fail
  go_loopw [3, 10] (fun v i wr => ∃ k m : Nat, k ≤ L ∧ i = .int .i64 k ∧ v = .int .i64 m ∧ Hid (m = meA T k) ∧ Hid (Below w.heap.size w wr)) (fun _ i _ => L - (intOf i).toNat)
  case atStart => exact ⟨0, L, Nat.zero_le _, rfl, rfl, hid HL.out, hid (Below.refl _ _)⟩
  case round =>
    obtain ⟨k, m, hk, rfl, rfl, HU, HB⟩ := hrel
    by_cases hlt : k < L
    · have r2 := HT.out.low HB.out
      rcases r2 with h0 | ⟨b2, o2, rfl, hb2, hc2⟩
      · have := HL.out; omega
      obtain ⟨xa, xc, na, nc, ka, kc, c, r1, r2, r3⟩ := hc2 k (by rw [← HL.out]; exact hlt)
      have hme : m + ((pp T k).l.tx.length + (pp T k).l.nm.length) ≤ 4611686018427387904 := by
        have h1 : meA T (k + 1) ≤ meL T := meA_le T (by have := HL.out; omega)
        have h2 := HM.out
        have h3 := HU.out
        simp only [meA] at h1
        omega
      obtain ⟨p, hp⟩ : ∃ p, p = pp T k := ⟨_, rfl⟩
      rw [← hp] at hme c
      have HP := hid hp
      clear hp hc2 r1 r2 r3
      obtain ⟨cs, hcs⟩ : ∃ cs, cs = pvs p xa xc na nc ka kc := ⟨_, rfl⟩
      rw [← hcs] at c
      have hz9 : cs.length = 19 := by rw [hcs]; rfl
      have h1c : cs.toArray.all (·.oneCell') = true := by rw [hcs]; kernel_rfl
      have HCS := hid hcs
      have HC := hid c
      clear hcs c
      have g1 : (k : Int) < (L : Int) := by omega
      have g0 : (0 : Int) ≤ (k : Int) := by omega
      go_upto_region 4 with (fail)
      refine wp_region_lit ?_
      refine wpList_plain rfl fun K hK => ?_
      have HK := hid hK
      clear hK
      go_simp
      refine HK.out _ _ ?_
      clear HK
      try simp only [Act.put, List.setIfInBounds_toArray, List.set_cons_zero, List.set_cons_succ]
      refine wpList_load_mid rfl 51 _ rfl b2 (o2 + k * 19) rfl cs _ HC.out Tryz.underlying51 rfl (by rw [hz9]; exact infoPP) ?_
      try simp only [Act.put, List.setIfInBounds_toArray, List.set_cons_zero, List.set_cons_succ]
      refine wpList_plain rfl fun K hK => ?_
      have HK := hid hK
      clear hK
      go_simp
      refine HK.out _ _ ?_
      clear HK
      try simp only [Act.put, List.setIfInBounds_toArray, List.set_cons_zero, List.set_cons_succ]
      refine wpList_store_row rfl 51 _ _ rfl wr.heap.size cs.toArray rfl rfl 51 _ (heap_alloc_new wr _) (by simp only [List.size_toArray]; rw [hz9]; exact infoPP) (by simp only [List.size_toArray]; rw [hz9]; rfl) h1c ?_
      try simp only [Act.put, List.setIfInBounds_toArray, List.set_cons_zero, List.set_cons_succ]
      refine over_new (F := fun X => wpList _ _ _ _ _ X) ?_
      intro X nb ns nc'
      have q9 : X.cell? ⟨wr.heap.size, 9, none⟩ = some (.slice xa p.l.tx.length xc) := nc'.2 9 _ (by rw [HCS.out]; rfl)
      have q10 : X.cell? ⟨wr.heap.size, 10, none⟩ = some (.slice na p.l.nm.length nc) := nc'.2 10 _ (by rw [HCS.out]; rfl)
      obtain ⟨xn, hx⟩ : ∃ xn, xn = p.l.tx.length := ⟨_, rfl⟩
      obtain ⟨nn, hn⟩ : ∃ nn, nn = p.l.nm.length := ⟨_, rfl⟩
      rw [← hx] at hme q9
      rw [← hn] at hme q10
      have HX := hid hx
      have HN := hid hn
      have NB := hid nb
      clear hx hn nb nc' h1c hz9
      generalize hwz : wr.heap.size = bz at *
      have HWZ := hid hwz
      clear hwz
      go_wp2_with fail
      refine ⟨⟨k + 1, m + (xn + nn), by omega, by go_num, by go_num, hid ?_, hid (HB.out.trans ((show Below wr.heap.size wr X by rw [HWZ.out]; exact NB.out).mono HB.out.size))⟩, by simp [intOf]; omega⟩
      rw [HX.out, HN.out, HU.out]
      show _ = meA T k + ((pp T k).l.tx.length + (pp T k).l.nm.length)
      rw [← HP.out]
    · obtain rfl : k = L := by omega
      go_wp2_with fail
      go_ret
      refine ⟨?_, HB.out⟩
      rw [HU.out, HL.out]
      rfl
end Go.Proofs.YtimmjikpcekffaaGreatDoor.L
