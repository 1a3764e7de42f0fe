import Derived.WalkKit
import Derived.Test.YtimmjikpcekffaaGreatDoorMgAC
namespace Go.Proofs.YtimmjikpcekffaaGreatDoor.L
set_option linter.unusedVariables false
abbrev Lb := ByteArray × ByteArray
theorem less_irrefl (x : List UInt8) : Op.bytesLess x x = false := by
  induction x with
  | nil => rfl
  | cons a x ih => simp [Op.bytesLess, ih]
theorem less_total (x y : List UInt8) : Op.bytesLess x y = true ∨ x = y ∨ Op.bytesLess y x = true := by
  induction x generalizing y with
  | nil => cases y with
    | nil => exact Or.inr (Or.inl rfl)
    | cons b y => exact Or.inl rfl
  | cons a x ih => cases y with
    | nil => exact Or.inr (Or.inr rfl)
    | cons b y =>
      simp only [Op.bytesLess, Bool.or_eq_true, Bool.and_eq_true, decide_eq_true_eq, beq_iff_eq, List.cons.injEq]
      by_cases h1 : a < b
      · exact Or.inl (Or.inl h1)
      · by_cases h2 : b < a
        · exact Or.inr (Or.inr (Or.inl h2))
        · have e : a = b := by
            rw [UInt8.lt_iff_toNat_lt] at h1 h2
            exact UInt8.toNat_inj.1 (by omega)
          rcases ih y with h | h | h
          · exact Or.inl (Or.inr ⟨e, h⟩)
          · exact Or.inr (Or.inl ⟨e, h⟩)
          · exact Or.inr (Or.inr (Or.inr ⟨e.symm, h⟩))
theorem less_trans (x y z : List UInt8) (h1 : Op.bytesLess x y = true) (h2 : Op.bytesLess y z = true) : Op.bytesLess x z = true := by
  induction x generalizing y z with
  | nil => cases z with
    | nil => cases y <;> simp [Op.bytesLess] at h2
    | cons c z => rfl
  | cons a x ih => cases y with
    | nil => simp [Op.bytesLess] at h1
    | cons b y => cases z with
      | nil => simp [Op.bytesLess] at h2
      | cons c z =>
        simp only [Op.bytesLess, Bool.or_eq_true, Bool.and_eq_true, decide_eq_true_eq, beq_iff_eq] at h1 h2 ⊢
        rw [UInt8.lt_iff_toNat_lt] at h1 h2 ⊢
        rcases h1 with h1 | ⟨rfl, h1⟩ <;> rcases h2 with h2 | ⟨rfl, h2⟩
        · exact Or.inl (by omega)
        · exact Or.inl h1
        · exact Or.inl h2
        · exact Or.inr ⟨rfl, ih y z h1 h2⟩
theorem less_asymm (x y : List UInt8) (h : Op.bytesLess x y = true) : Op.bytesLess y x = false ∧ (x == y) = false ∧ (y == x) = false := by
  refine ⟨?_, ?_, ?_⟩
  · cases e : Op.bytesLess y x
    · rfl
    · have := less_trans x y x h e
      rw [less_irrefl] at this
      cases this
  · simp
    rintro rfl
    rw [less_irrefl] at h
    cases h
  · simp
    rintro rfl
    rw [less_irrefl] at h
    cases h
theorem bytes_toList (s : ByteArray) : s.toList = s.data.toList := by
  exact ByteArray.toList_eq s
theorem bytes_ext {s t : ByteArray} (h : s.toList = t.toList) : s = t := by
  rw [bytes_toList, bytes_toList] at h
  cases s; cases t
  simp at h
  rw [h]
def Lt (x y : Lb) : Prop := Op.bytesLess x.1.toList y.1.toList = true
/-- A list whose keys rise. -/
def Up (l : List Lb) : Prop := l.Pairwise Lt
theorem lt_trans {x y z : Lb} (h : Lt x y) (h' : Lt y z) : Lt x z := less_trans _ _ _ h h'
theorem lt_irrefl {x : Lb} (h : Lt x x) : False := by
  unfold Lt at h
  rw [less_irrefl] at h
  cases h
theorem up_unique {a b : List Lb} (ha : Up a) (hb : Up b) (h : ∀ x, x ∈ a ↔ x ∈ b) : a = b := by
  induction a generalizing b with
  | nil => cases b with
    | nil => rfl
    | cons y b => exact absurd ((h y).2 (by simp)) (by simp)
  | cons x a ih => cases b with
    | nil => exact absurd ((h x).1 (by simp)) (by simp)
    | cons y b =>
      obtain ⟨a1, a2⟩ := List.pairwise_cons.1 ha
      obtain ⟨b1, b2⟩ := List.pairwise_cons.1 hb
      have e : x = y := by
        rcases List.mem_cons.1 ((h x).1 (by simp)) with e | e
        · exact e
        · rcases List.mem_cons.1 ((h y).2 (by simp)) with f | f
          · exact f.symm
          · exact (lt_irrefl (lt_trans (a1 y f) (b1 x e))).elim
      subst e
      rw [ih a2 b2 fun z => ?_]
      constructor
      · intro hz
        rcases List.mem_cons.1 ((h z).1 (by simp [hz])) with e | e
        · rw [e] at hz
          exact (lt_irrefl (a1 _ hz)).elim
        · exact e
      · intro hz
        rcases List.mem_cons.1 ((h z).2 (by simp [hz])) with e | e
        · rw [e] at hz
          exact (lt_irrefl (b1 _ hz)).elim
        · exact e
/-- Two of a rising list with one key are one. -/
theorem up_key {l : List Lb} (h : Up l) {x y : Lb} (hx : x ∈ l) (hy : y ∈ l) (e : x.1 = y.1) : x = y := by
  induction l with
  | nil => simp at hx
  | cons z l ih =>
    obtain ⟨h1, h2⟩ := List.pairwise_cons.1 h
    have no : ∀ {u : Lb}, u ∈ l → z.1 = u.1 → False := fun {u} hu e => by
      have := h1 u hu
      unfold Lt at this
      rw [e, less_irrefl] at this
      cases this
    rcases List.mem_cons.1 hx with hx | hx <;> rcases List.mem_cons.1 hy with hy | hy
    · rw [hx, hy]
    · exact (no hy (by rw [← hx]; exact e)).elim
    · exact (no hx (by rw [← hy]; exact e.symm)).elim
    · exact ih h2 hx hy
end Go.Proofs.YtimmjikpcekffaaGreatDoor.L
namespace Go.Proofs.YtimmjikpcekffaaGreatDoor.L
open Go.RowKit
set_option linter.unusedVariables false
set_option linter.unusedSimpArgs false
/-- What two literals have in common. -/
def Same (kd tk ts : Int) (ty : ByteArray) (tl rl nu : Int) (xa : Option Addr) (xn xc : Nat) (na : Option Addr) (nn nc : Nat) (ok os : Int) (oy : ByteArray) (ol of : Int) (ky : ByteArray) (sl : Int) (kd' tk' ts' : Int) (ty' : ByteArray) (tl' rl' nu' : Int) (xa' : Option Addr) (xn' xc' : Nat) (na' : Option Addr) (nn' nc' : Nat) (ok' os' : Int) (oy' : ByteArray) (ol' of' : Int) (ky' : ByteArray) (sl' : Int) : Prop := xn = xn' ∧ nn = nn' ∧ kd = kd' ∧ (tk = tk' ∧ ts = ts' ∧ ty = ty' ∧ tl = tl') ∧ rl = rl' ∧ nu = nu' ∧ (ok = ok' ∧ os = os' ∧ oy = oy' ∧ ol = ol') ∧ of = of' ∧ ky = ky' ∧ sl = sl'
theorem toList_inj {a b : ByteArray} : a.toList = b.toList ↔ a = b := ⟨bytes_ext, fun h => by rw [h]⟩
set_option maxHeartbeats 4000000 in
set_option maxRecDepth 100000 in
theorem same_any (kd tk ts : Int) (ty : ByteArray) (tl rl nu : Int) (xa : Option Addr) (xn xc : Nat) (na : Option Addr) (nn nc : Nat) (ok os : Int) (oy : ByteArray) (ol of : Int) (ky : ByteArray) (sl : Int) (kd' tk' ts' : Int) (ty' : ByteArray) (tl' rl' nu' : Int) (xa' : Option Addr) (xn' xc' : Nat) (na' : Option Addr) (nn' nc' : Nat) (ok' os' : Int) (oy' : ByteArray) (ol' of' : Int) (ky' : ByteArray) (sl' : Int) (w : World) : Calls Tryz.prog 83 #[.agg #[.int .i64 kd, .int .i64 tk, .int .i64 ts, .string ty, .int .i64 tl, .int .i64 rl, .int .i64 nu, .slice xa xn xc, .slice na nn nc, .int .i64 ok, .int .i64 os, .string oy, .int .i64 ol, .int .i64 of, .string ky, .int .i64 sl], .agg #[.int .i64 kd', .int .i64 tk', .int .i64 ts', .string ty', .int .i64 tl', .int .i64 rl', .int .i64 nu', .slice xa' xn' xc', .slice na' nn' nc', .int .i64 ok', .int .i64 os', .string oy', .int .i64 ol', .int .i64 of', .string ky', .int .i64 sl']] w fun e w' => (∃ b, e = .returned (.bool b) ∧ (b = true ↔ Same kd tk ts ty tl rl nu xa xn xc na nn nc ok os oy ol of ky sl kd' tk' ts' ty' tl' rl' nu' xa' xn' xc' na' nn' nc' ok' os' oy' ol' of' ky' sl')) ∧ Below w.heap.size w w' := by
  have LY := hid (show ∀ o1 o2 : Obj, Below w.heap.size w ((w.alloc o1).alloc o2) from fun o1 o2 => ((Below.refl _ w).alloc (Nat.le_refl _) o1).alloc (by simp) o2)
  go_enter Tryz.func83, Tryz.ntmps83
  go_wp2_with fail
  all_goals
    go_ret
    refine ⟨⟨_, rfl, ?_⟩, LY.out _ _⟩
    unfold Same
    (try simp only [toList_inj] at *)
    (try simp_all)
    (try omega)
end Go.Proofs.YtimmjikpcekffaaGreatDoor.L
namespace Go.Proofs.YtimmjikpcekffaaGreatDoor.L
open Go.RowKit
set_option linter.unusedVariables false
set_option linter.unusedSimpArgs false
theorem bl_not {A B : ByteArray} (h : Op.bytesLess A.toList B.toList = true ∨ (A.toList == B.toList) = true) : ¬ Op.bytesLess B.toList A.toList = true := by
  intro h2
  have h3 := less_asymm _ _ h2
  rcases h with h | h
  · rw [h3.1] at h; cases h
  · rw [h3.2.2] at h; cases h
theorem bl_yes {A B : ByteArray} (h : Op.bytesLess A.toList B.toList = false ∧ (A.toList == B.toList) = false) : Op.bytesLess B.toList A.toList = true := by
  rcases less_total A.toList B.toList with h2 | h2 | h2
  · rw [h.1] at h2; cases h2
  · exact absurd h2 (by simpa using h.2)
  · exact h2
/-- A list of texts that can be read. -/
def RdS (w : World) (a : Option Addr) (l : List ByteArray) : Prop := l.length = 0 ∨ ∃ b off, a = some ⟨b, off, none⟩ ∧ b < w.heap.size ∧ ∀ j, j < l.length → w.cell? ⟨b, off + j, none⟩ = some (.string (l.getD j ByteArray.empty))
theorem RdS.low {w w' : World} {a : Option Addr} {zs : List ByteArray} (h : RdS w a zs) {B : Nat} (k : Below B w w') (hB : w.heap.size ≤ B) : RdS w' a zs := by
  rcases h with h | ⟨b, off, rfl, h2, h3⟩
  · exact Or.inl h
  · exact Or.inr ⟨b, off, rfl, Nat.lt_of_lt_of_le h2 k.size, fun j hj => (k.cell (p := ⟨b, off + j, none⟩) (Nat.lt_of_lt_of_le h2 hB)).trans (h3 j hj)⟩
set_option maxHeartbeats 4000000 in
set_option maxRecDepth 100000 in
theorem rises_s (a : Option Addr) (c L : Nat) (l : List ByteArray) (hL : L = l.length) (w : World) (hr : RdS w a l) (hl : L ≤ 140737488355328) : Calls Tryz.prog 110 #[.slice a L c] w fun e w' => (∃ b, e = .returned (.bool b) ∧ (b = true ↔ ∀ k, 1 ≤ k → k < l.length → Op.bytesLess (l.getD (k - 1) ByteArray.empty).toList (l.getD k ByteArray.empty).toList = true)) ∧ Below w.heap.size w w' := by
  have HR := hid hr
  have HL := hid hL
  clear hr hL
  go_enter Tryz.func110, Tryz.ntmps110
  go_wp2_with fail
  go_loopw [3] (fun i wr => ∃ k : Nat, 1 ≤ k ∧ i = .int .i64 k ∧ Hid (∀ q, 1 ≤ q → q < k → q < l.length → Op.bytesLess (l.getD (q - 1) ByteArray.empty).toList (l.getD q ByteArray.empty).toList = true) ∧ Hid (Below w.heap.size w wr)) (fun i _ => L + 1 - (intOf i).toNat)
  case atStart => exact ⟨1, Nat.le_refl _, rfl, hid (fun q h1 h2 => absurd h1 (by omega)), hid (Below.refl _ _)⟩
  case round =>
    obtain ⟨k, hk, rfl, HU, HB⟩ := hrel
    by_cases hlt : k < L
    · have g1 : (k : Int) < (L : Int) := by omega
      have g0 : (0 : Int) ≤ (k : Int) := by omega
      have g2 : (0 : Int) ≤ (k : Int) - 1 := by omega
      have g3 : (k : Int) - 1 < (L : Int) := by omega
      have hll := HL.out
      rcases HR.out with h0 | ⟨b, off, rfl, hbl, hc⟩
      · omega
      have p0 := hc k (by omega)
      have p1 := hc (k - 1) (by omega)
      rw [← HB.out.cell (p := ⟨b, off + k, none⟩) hbl] at p0
      rw [← HB.out.cell (p := ⟨b, off + (k - 1), none⟩) hbl] at p1
      have e1 : ((k : Int) - 1).toNat = k - 1 := by omega
      have hbw : b < wr.heap.size := Nat.lt_of_lt_of_le hbl HB.out.size
      have HLT := hid (show Op.bytesLess (l.getD (k - 1) ByteArray.empty).toList (l.getD k ByteArray.empty).toList = true ∨ ¬ Op.bytesLess (l.getD (k - 1) ByteArray.empty).toList (l.getD k ByteArray.empty).toList = true from Classical.em _)
      generalize hA : l.getD k ByteArray.empty = A at *
      generalize hB : l.getD (k - 1) ByteArray.empty = B at *
      have HA := hid hA
      have HBB := hid hB
      clear hc hA hB hll HLT
      go_wp2_with fail
      go_quiet (fail)
      go_wp2_with fail
      · go_ret
        refine ⟨⟨_, rfl, ?_⟩, below_drewN HB.out nq⟩
        constructor
        · intro h; cases h
        · intro h
          have h5 := h k hk (by have := HL.out; omega)
          rw [HA.out, HBB.out] at h5
          rename_i h6
          exact absurd h5 (bl_not h6)
      · rename_i h6
        refine ⟨⟨k + 1, by omega, by go_num, hid (fun q h1 h2 h3 => ?_), hid (below_drewN HB.out nq)⟩, by simp [intOf]; omega⟩
        by_cases e : q = k
        · subst e
          rw [HA.out, HBB.out]
          exact bl_yes h6
        · exact HU.out q h1 (by omega) h3
    · go_wp2_with fail
      go_ret
      refine ⟨⟨_, rfl, ?_⟩, HB.out⟩
      simp
      intro q h1 h2
      exact HU.out q h1 (by have := HL.out; omega) h2
set_option maxHeartbeats 4000000 in
set_option maxRecDepth 100000 in
theorem rises_i (a : Option Addr) (c L : Nat) (l : List Int) (hL : L = l.length) (w : World) (hr : RdI w a l) (hl : L ≤ 140737488355328) : Calls Tryz.prog 113 #[.slice a L c] w fun e w' => (∃ b, e = .returned (.bool b) ∧ (b = true ↔ ∀ k, 1 ≤ k → k < l.length → l.getD (k - 1) 0 < l.getD k 0)) ∧ Below w.heap.size w w' := by
  have HR := hid hr
  have HL := hid hL
  clear hr hL
  go_enter Tryz.func113, Tryz.ntmps113
  go_wp2_with fail
  go_loopw [3] (fun i wr => ∃ k : Nat, 1 ≤ k ∧ i = .int .i64 k ∧ Hid (∀ q, 1 ≤ q → q < k → q < l.length → l.getD (q - 1) 0 < l.getD q 0) ∧ Hid (Below w.heap.size w wr)) (fun i _ => L + 1 - (intOf i).toNat)
  case atStart => exact ⟨1, Nat.le_refl _, rfl, hid (fun q h1 h2 => absurd h1 (by omega)), hid (Below.refl _ _)⟩
  case round =>
    obtain ⟨k, hk, rfl, HU, HB⟩ := hrel
    by_cases hlt : k < L
    · have g1 : (k : Int) < (L : Int) := by omega
      have g0 : (0 : Int) ≤ (k : Int) := by omega
      have g2 : (0 : Int) ≤ (k : Int) - 1 := by omega
      have g3 : (k : Int) - 1 < (L : Int) := by omega
      have hll := HL.out
      rcases HR.out with h0 | ⟨b, off, rfl, hbl, hc⟩
      · omega
      have p0 := hc k (by omega)
      have p1 := hc (k - 1) (by omega)
      rw [← HB.out.cell (p := ⟨b, off + k, none⟩) hbl] at p0
      rw [← HB.out.cell (p := ⟨b, off + (k - 1), none⟩) hbl] at p1
      have e1 : ((k : Int) - 1).toNat = k - 1 := by omega
      have hbw : b < wr.heap.size := Nat.lt_of_lt_of_le hbl HB.out.size
      have HLT := hid (show l.getD (k - 1) 0 < l.getD k 0 ∨ ¬ l.getD (k - 1) 0 < l.getD k 0 from Classical.em _)
      generalize hA : l.getD k 0 = A at *
      generalize hB : l.getD (k - 1) 0 = B at *
      have HA := hid hA
      have HBB := hid hB
      clear hc hA hB hll HLT
      go_wp2_with fail
      go_quiet (fail)
      go_wp2_with fail
      · go_ret
        refine ⟨⟨_, rfl, ?_⟩, below_drewN HB.out nq⟩
        constructor
        · intro h; cases h
        · intro h
          have h5 := h k hk (by have := HL.out; omega)
          rw [HA.out, HBB.out] at h5
          rename_i h6
          omega
      · rename_i h6
        refine ⟨⟨k + 1, by omega, by go_num, hid (fun q h1 h2 h3 => ?_), hid (below_drewN HB.out nq)⟩, by simp [intOf]; omega⟩
        by_cases e : q = k
        · subst e
          rw [HA.out, HBB.out]
          omega
        · exact HU.out q h1 (by omega) h3
    · go_wp2_with fail
      go_ret
      refine ⟨⟨_, rfl, ?_⟩, HB.out⟩
      simp
      intro q h1 h2
      exact HU.out q h1 (by have := HL.out; omega) h2
set_option maxHeartbeats 4000000 in
set_option maxRecDepth 100000 in
theorem index_s (a : Option Addr) (c L : Nat) (l : List ByteArray) (hL : L = l.length) (w : World) (hr : RdS w a l) (hl : L ≤ 140737488355328) (hz : ∀ k, (l.getD k ByteArray.empty).size ≤ maxLen) : Calls Tryz.prog 137 #[.slice a L c, .func (.func 112) #[] #[]] w fun e w' => (∃ i : Int, e = .returned (.int .i64 i) ∧ (0 ≤ i ↔ ∃ k, k < l.length ∧ lgB (l.getD k ByteArray.empty) = true)) ∧ Below w.heap.size w w' := by
  have HR := hid hr
  have HL := hid hL
  have FN := hid (fun k (hk : k < l.length) W => long_any (l.getD k ByteArray.empty) W (hz k))
  clear hr hL
  go_enter Tryz.func137, Tryz.ntmps137
  go_wp2_with fail
  go_loopw [8] (fun i wr => ∃ k : Nat, k ≤ L ∧ i = .int .i64 k ∧ Hid (∀ q, q < k → lgB (l.getD q ByteArray.empty) = false) ∧ Hid (Below w.heap.size w wr)) (fun i _ => L - (intOf i).toNat)
  case atStart => exact ⟨0, Nat.zero_le _, rfl, hid (fun q h => absurd h (Nat.not_lt_zero q)), hid (Below.refl _ _)⟩
  case round =>
    obtain ⟨k, hk, rfl, HU, HB⟩ := hrel
    by_cases hlt : k < L
    · have g1 : (k : Int) < (L : Int) := by omega
      have g0 : (0 : Int) ≤ (k : Int) := by omega
      have hkl : k < l.length := by have := HL.out; omega
      rcases HR.out with h0 | ⟨b, off, rfl, hbl, hc⟩
      · omega
      have p0 := hc k hkl
      rw [← HB.out.cell (p := ⟨b, off + k, none⟩) hbl] at p0
      have hbw : b < wr.heap.size := Nat.lt_of_lt_of_le hbl HB.out.size
      have FK := hid (FN.out k hkl wr)
      have HKL := hid hkl
      clear hc hkl
      cases hbd : lgB (l.getD k ByteArray.empty)
      · rw [hbd] at FK
        have HBD := hid hbd
        clear hbd
        go_wp2_with fail
        refine FK.out.mono ?_
        rintro e w1 ⟨rfl, hb⟩
        have B1 := hid (HB.out.trans (hb.mono HB.out.size))
        clear hb
        go_wp2_with fail
        refine ⟨⟨k + 1, by omega, by go_num, hid (fun q h => ?_), B1⟩, by simp [intOf]; omega⟩
        by_cases e : q = k
        · rw [e]; exact HBD.out
        · exact HU.out q (by omega)
      · rw [hbd] at FK
        have HBD := hid hbd
        clear hbd
        go_wp2_with fail
        refine FK.out.mono ?_
        rintro e w1 ⟨rfl, hb⟩
        have B1 := hid (HB.out.trans (hb.mono HB.out.size))
        clear hb
        go_wp2_with fail
        go_ret
        exact ⟨⟨_, rfl, fun _ => ⟨k, HKL.out, HBD.out⟩, fun _ => g0⟩, B1.out⟩
    · go_wp2_with fail
      go_ret
      refine ⟨⟨_, rfl, fun h => absurd h (by decide), ?_⟩, HB.out⟩
      rintro ⟨q, h1, h2⟩
      rw [HU.out q (by have := HL.out; omega)] at h2
      cases h2
set_option maxHeartbeats 4000000 in
set_option maxRecDepth 100000 in
theorem contains_s (a : Option Addr) (c L : Nat) (l : List ByteArray) (hL : L = l.length) (w : World) (hr : RdS w a l) (hl : L ≤ 140737488355328) (hz : ∀ k, (l.getD k ByteArray.empty).size ≤ maxLen) : Calls Tryz.prog 111 #[.slice a L c, .func (.func 112) #[] #[]] w fun e w' => (∃ b, e = .returned (.bool b) ∧ (b = true ↔ ∃ k, k < l.length ∧ lgB (l.getD k ByteArray.empty) = true)) ∧ Below w.heap.size w w' := by
  have C := hid (index_s a c L l hL w hr hl hz)
  clear hr hL
  go_enter Tryz.func111, Tryz.ntmps111
  go_wp2_with fail
  refine C.out.mono ?_
  rintro e w1 ⟨⟨i, rfl, hi⟩, hb⟩
  have HI := hid hi
  have HB := hid hb
  clear hi hb
  go_wp2_with fail
  go_ret
  refine ⟨⟨_, rfl, ?_⟩, HB.out⟩
  rw [← HI.out]
  simp
set_option maxHeartbeats 4000000 in
set_option maxRecDepth 100000 in
theorem index_i (a : Option Addr) (c L : Nat) (l : List Int) (hL : L = l.length) (w : World) (hr : RdI w a l) (hl : L ≤ 140737488355328) : Calls Tryz.prog 64 #[.slice a L c, .func (.func 115) #[] #[]] w fun e w' => (∃ i : Int, e = .returned (.int .i64 i) ∧ (0 ≤ i ↔ ∃ k, k < l.length ∧ farB (l.getD k 0) = true)) ∧ Below w.heap.size w w' := by
  have HR := hid hr
  have HL := hid hL
  have FN := hid (fun k (hk : k < l.length) W => far_any (l.getD k 0) W)
  clear hr hL
  go_enter Tryz.func64, Tryz.ntmps64
  go_wp2_with fail
  go_loopw [8] (fun i wr => ∃ k : Nat, k ≤ L ∧ i = .int .i64 k ∧ Hid (∀ q, q < k → farB (l.getD q 0) = false) ∧ Hid (Below w.heap.size w wr)) (fun i _ => L - (intOf i).toNat)
  case atStart => exact ⟨0, Nat.zero_le _, rfl, hid (fun q h => absurd h (Nat.not_lt_zero q)), hid (Below.refl _ _)⟩
  case round =>
    obtain ⟨k, hk, rfl, HU, HB⟩ := hrel
    by_cases hlt : k < L
    · have g1 : (k : Int) < (L : Int) := by omega
      have g0 : (0 : Int) ≤ (k : Int) := by omega
      have hkl : k < l.length := by have := HL.out; omega
      rcases HR.out with h0 | ⟨b, off, rfl, hbl, hc⟩
      · omega
      have p0 := hc k hkl
      rw [← HB.out.cell (p := ⟨b, off + k, none⟩) hbl] at p0
      have hbw : b < wr.heap.size := Nat.lt_of_lt_of_le hbl HB.out.size
      have FK := hid (FN.out k hkl wr)
      have HKL := hid hkl
      clear hc hkl
      cases hbd : farB (l.getD k 0)
      · rw [hbd] at FK
        have HBD := hid hbd
        clear hbd
        go_wp2_with fail
        refine FK.out.mono ?_
        rintro e w1 ⟨rfl, hb⟩
        have B1 := hid (HB.out.trans (hb.mono HB.out.size))
        clear hb
        go_wp2_with fail
        refine ⟨⟨k + 1, by omega, by go_num, hid (fun q h => ?_), B1⟩, by simp [intOf]; omega⟩
        by_cases e : q = k
        · rw [e]; exact HBD.out
        · exact HU.out q (by omega)
      · rw [hbd] at FK
        have HBD := hid hbd
        clear hbd
        go_wp2_with fail
        refine FK.out.mono ?_
        rintro e w1 ⟨rfl, hb⟩
        have B1 := hid (HB.out.trans (hb.mono HB.out.size))
        clear hb
        go_wp2_with fail
        go_ret
        exact ⟨⟨_, rfl, fun _ => ⟨k, HKL.out, HBD.out⟩, fun _ => g0⟩, B1.out⟩
    · go_wp2_with fail
      go_ret
      refine ⟨⟨_, rfl, fun h => absurd h (by decide), ?_⟩, HB.out⟩
      rintro ⟨q, h1, h2⟩
      rw [HU.out q (by have := HL.out; omega)] at h2
      cases h2
set_option maxHeartbeats 4000000 in
set_option maxRecDepth 100000 in
theorem contains_i (a : Option Addr) (c L : Nat) (l : List Int) (hL : L = l.length) (w : World) (hr : RdI w a l) (hl : L ≤ 140737488355328) : Calls Tryz.prog 114 #[.slice a L c, .func (.func 115) #[] #[]] w fun e w' => (∃ b, e = .returned (.bool b) ∧ (b = true ↔ ∃ k, k < l.length ∧ farB (l.getD k 0) = true)) ∧ Below w.heap.size w w' := by
  have C := hid (index_i a c L l hL w hr hl)
  clear hr hL
  go_enter Tryz.func114, Tryz.ntmps114
  go_wp2_with fail
  refine C.out.mono ?_
  rintro e w1 ⟨⟨i, rfl, hi⟩, hb⟩
  have HI := hid hi
  have HB := hid hb
  clear hi hb
  go_wp2_with fail
  go_ret
  refine ⟨⟨_, rfl, ?_⟩, HB.out⟩
  rw [← HI.out]
  simp
end Go.Proofs.YtimmjikpcekffaaGreatDoor.L
