import Derived.Laws.BitsAllLaws
import Derived.WalkKit
import Derived.WalkSpells
import Derived.Laws.Rows
import Derived.WalkLawsBesides
import Derived.Test.YtkagdmhijjfnnaaDoorProg
import Derived.Deep.QuietTactic
import Derived.BigQuiet
import Derived.Laws.CopyOwn
namespace Bs

/-- Is the number i in the set whose words are ws? -/
def mem (ws : List Nat) (i : Nat) : Bool := (ws.getD (i / 64) 0).testBit (i % 64)
/-- Word by word with another list, which is 0 beyond its end. -/
def opW (f : Nat → Nat → Nat) (ws vs : List Nat) : List Nat := ws.mapIdx fun i x => f x (vs.getD i 0)
def anot (x y : Nat) : Nat := x &&& (18446744073709551615 - y)
/-- Every word is a word. -/
def Wd (ws : List Nat) : Prop := ∀ x ∈ ws, x < 18446744073709551616
/-- The last word without the bits from n on. -/
def cutW (n : Nat) (ws : List Nat) : List Nat := if n % 64 = 0 then ws else ws.set (ws.length - 1) (ws.getD (ws.length - 1) 0 &&& (2 ^ (n % 64) - 1))
def widW (k : Nat) (ws : List Nat) : List Nat := ws ++ List.replicate (k - ws.length) 0
def nw (n : Nat) : Nat := (n + 63) / 64

theorem length_opW (f : Nat → Nat → Nat) (ws vs : List Nat) : (opW f ws vs).length = ws.length := by simp [opW]
theorem getD_opW (f : Nat → Nat → Nat) (ws vs : List Nat) (i : Nat) : (opW f ws vs).getD i 0 = if i < ws.length then f (ws.getD i 0) (vs.getD i 0) else 0 := by
  unfold opW
  rw [List.getD_eq_getElem?_getD, List.getElem?_mapIdx]
  split
  · rename_i h; simp [List.getElem?_eq_getElem h]
  · rename_i h; rw [List.getElem?_eq_none (by omega)]; rfl
theorem length_widW (k : Nat) (ws : List Nat) (h : ws.length ≤ k) : (widW k ws).length = k := by simp [widW]; omega
theorem getD_widW (k : Nat) (ws : List Nat) (i : Nat) : (widW k ws).getD i 0 = ws.getD i 0 := by
  unfold widW
  simp only [List.getD_eq_getElem?_getD, List.getElem?_append]
  split
  · rfl
  · rename_i h
    rw [List.getElem?_eq_none (l := ws) (by omega), List.getElem?_replicate]
    split <;> rfl
theorem length_cutW (n : Nat) (ws : List Nat) : (cutW n ws).length = ws.length := by unfold cutW; split <;> simp
theorem mem_widW (k : Nat) (ws : List Nat) (i : Nat) : mem (widW k ws) i = mem ws i := by simp only [mem, getD_widW]
theorem mem_out (ws : List Nat) (i : Nat) (h : ws.length ≤ i / 64) : mem ws i = false := by
  unfold mem; rw [List.getD_eq_getElem?_getD, List.getElem?_eq_none h]; simp
theorem Wd.getD {ws : List Nat} (h : Wd ws) (i : Nat) : ws.getD i 0 < 18446744073709551616 := by
  rw [List.getD_eq_getElem?_getD]
  rcases hi : ws[i]? with _ | x
  · decide
  · exact h x (List.mem_of_getElem? hi)
theorem Wd.widW {ws : List Nat} (h : Wd ws) (k : Nat) : Wd (widW k ws) := by
  intro x hx
  simp only [Bs.widW, List.mem_append, List.mem_replicate] at hx
  rcases hx with hx | ⟨_, rfl⟩
  · exact h x hx
  · decide
theorem Wd.opW {ws vs : List Nat} {f : Nat → Nat → Nat} (h : Wd ws) (k : Wd vs) (hf : ∀ x y, x < 18446744073709551616 → y < 18446744073709551616 → f x y < 18446744073709551616) : Wd (opW f ws vs) := by
  intro x hx
  unfold Bs.opW at hx
  obtain ⟨i, hi, rfl⟩ := List.mem_iff_getElem.1 hx
  simp only [List.getElem_mapIdx]
  exact hf _ _ (h _ (List.getElem_mem _)) (k.getD i)
theorem Wd.cutW {ws : List Nat} (h : Wd ws) (n : Nat) : Wd (cutW n ws) := by
  unfold Bs.cutW
  split
  · exact h
  · intro x hx
    rcases List.mem_or_eq_of_mem_set hx with hx | rfl
    · exact h x hx
    · exact Nat.lt_of_le_of_lt Nat.and_le_left (h.getD _)
theorem Wd.set {ws : List Nat} (h : Wd ws) (k x : Nat) (hx : x < 18446744073709551616) : Wd (ws.set k x) := by
  intro y hy
  rcases List.mem_or_eq_of_mem_set hy with hy | rfl
  · exact h y hy
  · exact hx
theorem and_lt (x y : Nat) (hx : x < 18446744073709551616) : x &&& y < 18446744073709551616 := Nat.lt_of_le_of_lt Nat.and_le_left hx
theorem anot_lt (x y : Nat) (hx : x < 18446744073709551616) : anot x y < 18446744073709551616 := and_lt _ _ hx
theorem or_lt (x y : Nat) (hx : x < 18446744073709551616) (hy : y < 18446744073709551616) : x ||| y < 18446744073709551616 := Nat.or_lt_two_pow (n := 64) hx hy
theorem xor_lt (x y : Nat) (hx : x < 18446744073709551616) (hy : y < 18446744073709551616) : x ^^^ y < 18446744073709551616 := Nat.xor_lt_two_pow (n := 64) hx hy
theorem testBit_anot (x y i : Nat) (hy : y < 18446744073709551616) (hx : x < 18446744073709551616) : (anot x y).testBit i = (x.testBit i && !y.testBit i) := by
  unfold anot
  have e : 18446744073709551615 - y = 2 ^ 64 - (y + 1) := by omega
  rw [Nat.testBit_and, e, Nat.testBit_two_pow_sub_succ (by exact hy)]
  by_cases h : i < 64
  · simp [h]
  · have : x.testBit i = false := Nat.testBit_lt_two_pow (Nat.lt_of_lt_of_le hx (Nat.pow_le_pow_right (n := 2) (by decide) (show 64 ≤ i by omega)))
    simp [this]
theorem mem_and (ws vs : List Nat) (i : Nat) : mem (opW (· &&& ·) ws vs) i = (mem ws i && mem vs i) := by
  unfold mem; rw [getD_opW]
  split
  · simp
  · rename_i h; rw [show ws.getD (i/64) 0 = 0 by rw [List.getD_eq_getElem?_getD, List.getElem?_eq_none (by omega)]; rfl]; simp
theorem mem_anot (ws vs : List Nat) (i : Nat) (h1 : Wd ws) (h2 : Wd vs) : mem (opW anot ws vs) i = (mem ws i && !mem vs i) := by
  unfold mem; rw [getD_opW]
  split
  · exact testBit_anot _ _ _ (h2.getD _) (h1.getD _)
  · rename_i h; rw [show ws.getD (i/64) 0 = 0 by rw [List.getD_eq_getElem?_getD, List.getElem?_eq_none (by omega)]; rfl]; simp
theorem mem_or (ws vs : List Nat) (i : Nat) : mem (opW (· ||| ·) ws vs) i = (mem ws i || (decide (i / 64 < ws.length) && mem vs i)) := by
  unfold mem; rw [getD_opW]
  split
  · rename_i h; simp [h]
  · rename_i h; rw [show ws.getD (i/64) 0 = 0 by rw [List.getD_eq_getElem?_getD, List.getElem?_eq_none (by omega)]; rfl]; simp [h]
theorem mem_xor (ws vs : List Nat) (i : Nat) : mem (opW (· ^^^ ·) ws vs) i = (mem ws i ^^ (decide (i / 64 < ws.length) && mem vs i)) := by
  unfold mem; rw [getD_opW]
  split
  · rename_i h; simp [h]
  · rename_i h; rw [show ws.getD (i/64) 0 = 0 by rw [List.getD_eq_getElem?_getD, List.getElem?_eq_none (by omega)]; rfl]; simp [h]
theorem mem_set (ws : List Nat) (k x i : Nat) (hk : k < ws.length) : mem (ws.set k x) i = if i / 64 = k then x.testBit (i % 64) else mem ws i := by
  unfold mem
  simp only [List.getD_eq_getElem?_getD, List.getElem?_set]
  by_cases h : i / 64 = k
  · simp [h, hk]
  · rw [if_neg (by omega), if_neg h]
theorem mem_cutW (n : Nat) (ws : List Nat) (h : ws.length = nw n) (i : Nat) : mem (cutW n ws) i = (mem ws i && decide (i < n)) := by
  unfold nw at h
  unfold cutW
  split
  · rename_i h0
    by_cases hi : i < n
    · simp [hi]
    · rw [mem_out ws i (by omega)]; simp
  · rename_i h0
    rw [mem_set _ _ _ _ (by omega)]
    split
    · rename_i h1
      rw [Nat.testBit_and, Nat.testBit_two_pow_sub_one]
      unfold mem; rw [h1]
      congr 1
      rw [decide_eq_decide]; omega
    · rename_i h1
      by_cases hi : i < n
      · simp [hi]
      · rw [mem_out ws i (by omega)]; simp

/-- Tidy: no number from n on. -/
def Tidy (n : Nat) (ws : List Nat) : Prop := ∀ i, n ≤ i → mem ws i = false
theorem word_ext (x y : Nat) (hx : x < 18446744073709551616) (hy : y < 18446744073709551616) (h : ∀ b, b < 64 → x.testBit b = y.testBit b) : x = y := by
  apply Nat.eq_of_testBit_eq
  intro i
  by_cases hi : i < 64
  · exact h i hi
  · have a : ∀ z, z < 18446744073709551616 → z.testBit i = false := fun z hz => Nat.testBit_lt_two_pow (Nat.lt_of_lt_of_le hz (Nat.pow_le_pow_right (n := 2) (by decide) (show 64 ≤ i by omega)))
    rw [a x hx, a y hy]
theorem mem_at (ws : List Nat) (k b : Nat) (hb : b < 64) : mem ws (64 * k + b) = (ws.getD k 0).testBit b := by
  unfold mem
  rw [show (64 * k + b) / 64 = k by omega, show (64 * k + b) % 64 = b by omega]
theorem word_zero_iff (x : Nat) (hx : x < 18446744073709551616) : x = 0 ↔ ∀ b, b < 64 → x.testBit b = false :=
  ⟨fun h => by subst h; simp, fun h => word_ext x 0 hx (by decide) (fun b hb => by simp [h b hb])⟩
/-- Subset, word by word. -/
theorem subset_iff (ws vs : List Nat) (h1 : Wd ws) (h2 : Wd vs) : (∀ k, k < ws.length → anot (ws.getD k 0) (vs.getD k 0) = 0) ↔ ∀ i, mem ws i = true → mem vs i = true := by
  constructor
  · intro h i hi
    by_cases hk : i / 64 < ws.length
    · have := h _ hk
      have e := testBit_anot (ws.getD (i/64) 0) (vs.getD (i/64) 0) (i % 64) (h2.getD _) (h1.getD _)
      rw [this] at e
      unfold mem at hi ⊢
      rw [hi] at e
      simpa using e
    · rw [mem_out ws i (by omega)] at hi; cases hi
  · intro h k hk
    rw [word_zero_iff _ (anot_lt _ _ (h1.getD _))]
    intro b hb
    rw [testBit_anot _ _ _ (h2.getD _) (h1.getD _)]
    have := h (64 * k + b)
    rw [mem_at _ _ _ hb, mem_at _ _ _ hb] at this
    cases hx : (ws.getD k 0).testBit b <;> simp_all
theorem meets_iff (ws vs : List Nat) (h1 : Wd ws) : (∃ k, k < ws.length ∧ k < vs.length ∧ ws.getD k 0 &&& vs.getD k 0 ≠ 0) ↔ ∃ i, mem ws i = true ∧ mem vs i = true := by
  constructor
  · rintro ⟨k, hk, _, h⟩
    have : ¬ ∀ b, b < 64 → (ws.getD k 0 &&& vs.getD k 0).testBit b = false := fun c => h ((word_zero_iff _ (and_lt _ _ (h1.getD _))).2 c)
    simp only [Classical.not_forall] at this
    obtain ⟨b, hb, hx⟩ := this
    refine ⟨64 * k + b, ?_⟩
    rw [mem_at _ _ _ hb, mem_at _ _ _ hb]
    simpa using hx
  · rintro ⟨i, a, b⟩
    have k1 : i / 64 < ws.length := by
      apply Classical.byContradiction; intro c; rw [mem_out ws i (by omega)] at a; cases a
    have k2 : i / 64 < vs.length := by
      apply Classical.byContradiction; intro c; rw [mem_out vs i (by omega)] at b; cases b
    refine ⟨i / 64, k1, k2, fun c => ?_⟩
    have : (ws.getD (i/64) 0 &&& vs.getD (i/64) 0).testBit (i % 64) = true := by
      rw [Nat.testBit_and]; unfold mem at a b; rw [a, b]; rfl
    rw [c] at this; simp at this
end Bs
namespace Go.Proofs.YtkagdmhijjfnnaaDoor
open Go.RowKit Bs

/-- A row of words. -/
def row (ws : List Nat) : Array Value := (ws.map fun x : Nat => Value.int .u64 (x : Int)).toArray
theorem row_get (ws : List Nat) (i : Nat) (h : i < ws.length) : (row ws)[i]? = some (.int .u64 ((ws.getD i 0 : Nat) : Int)) := by
  simp [row, List.getD_eq_getElem?_getD, List.getElem?_eq_getElem h]
theorem row_size (ws : List Nat) : (row ws).size = ws.length := by simp [row]
theorem row_set (ws : List Nat) (i x : Nat) : (row ws).setIfInBounds i (.int .u64 (x : Int)) = row (ws.set i x) := by
  simp only [row, List.setIfInBounds_toArray]
  congr 1
  rw [List.map_set]
theorem row_zero (k : Nat) : row (List.replicate k 0) = Array.replicate k (.int .u64 0) := by simp [row]

/-- All streams are as they were; of what lay in w nothing has turned but block a. -/
structure Chg (a : Nat) (w w' : World) : Prop where
  os : w'.os = w.os
  tape : w'.tape = w.tape
  output : w'.output = w.output
  size : w.heap.size ≤ w'.heap.size
  block : ∀ k, k < w.heap.size → k ≠ a → w'.heap[k]? = w.heap[k]?

theorem Chg.of {a : Nat} {w w' : World} (h : Below w.heap.size w w') : Chg a w w' := ⟨h.os, h.tape, h.output, h.size, fun k hk _ => h.block k hk⟩
theorem Chg.refl (a : Nat) (w : World) : Chg a w w := ⟨rfl, rfl, rfl, Nat.le_refl _, fun _ _ _ => rfl⟩
theorem Chg.trans {a : Nat} {x y z : World} (h : Chg a x y) (k : Chg a y z) : Chg a x z :=
  ⟨k.os.trans h.os, k.tape.trans h.tape, k.output.trans h.output, Nat.le_trans h.size k.size, fun i hi ha => (k.block i (Nat.lt_of_lt_of_le hi h.size) ha).trans (h.block i hi ha)⟩
theorem Chg.drew {a : Nat} {w : World} : Chg a w w.drew := ⟨rfl, rfl, rfl, Nat.le_refl _, fun _ _ _ => rfl⟩
theorem Chg.setCell {a : Nat} {w : World} (o : Nat) (v : Value) : Chg a w (w.setCell ⟨a, o, none⟩ v) :=
  ⟨rfl, rfl, rfl, by simp, fun k _ hk => Below.heap_setCell _ _ _ _ hk⟩
/-- A change of a block that did not lie in the first world is none of it. -/
theorem Chg.below {a B : Nat} {w w1 w2 : World} (h : Below B w w1) (k : Chg a w1 w2) (hB : B ≤ a) (hs : B ≤ w1.heap.size) : Below B w w2 :=
  ⟨k.os.trans h.os, k.tape.trans h.tape, k.output.trans h.output, Nat.le_trans h.size k.size, fun i hi => (k.block i (by omega) (by omega)).trans (h.block i hi)⟩
theorem belowT {w w1 w2 : World} (h : Below w.heap.size w w1) (k : Below w1.heap.size w1 w2) : Below w.heap.size w w2 := h.trans (k.mono h.size)
theorem belowDrewN {w : World} (n : Nat) : Below w.heap.size w (w.drewN n) := ⟨rfl, rfl, rfl, Nat.le_refl _, fun _ _ => rfl⟩

/-- BLOCK p IS A SET: a struct of a size and a slice over block q, whose row is ws. -/
structure IsSet (w : World) (p q n : Nat) (ws : List Nat) : Prop where
  hp : w.heap[p]? = some (.cells #[.int .i64 (n : Int), .slice (some ⟨q, 0, none⟩) ws.length ws.length] 74 (0, 0))
  hq : w.heap[q]? = some (.cells (row ws) 59 (0, 0))
  ne : p ≠ q
  hn : n ≤ 65536
  hl : ws.length = nw n
  wd : Wd ws
  cl : Tidy n ws

theorem lt_of_block {w : World} {k : Nat} {o : Obj} (h : w.heap[k]? = some o) : k < w.heap.size := by
  apply Classical.byContradiction; intro c
  rw [Array.getElem?_eq_none (by omega)] at h; cases h
theorem IsSet.plt {w : World} {p q n : Nat} {ws : List Nat} (h : IsSet w p q n ws) : p < w.heap.size := lt_of_block h.hp
theorem IsSet.qlt {w : World} {p q n : Nat} {ws : List Nat} (h : IsSet w p q n ws) : q < w.heap.size := lt_of_block h.hq
theorem IsSet.c0 {w : World} {p q n : Nat} {ws : List Nat} (h : IsSet w p q n ws) : w.cell? ⟨p, 0, none⟩ = some (.int .i64 n) := by rw [cell_of_row w p 0 _ _ _ h.hp]; rfl
theorem IsSet.c1 {w : World} {p q n : Nat} {ws : List Nat} (h : IsSet w p q n ws) : w.cell? ⟨p, 1, none⟩ = some (.slice (some ⟨q, 0, none⟩) ws.length ws.length) := by rw [cell_of_row w p 1 _ _ _ h.hp]; rfl
theorem IsSet.cw {w : World} {p q n : Nat} {ws : List Nat} (h : IsSet w p q n ws) (i : Nat) (hi : i < ws.length) : w.cell? ⟨q, i, none⟩ = some (.int .u64 ((ws.getD i 0 : Nat) : Int)) := by
  rw [cell_of_row w q i _ _ _ h.hq, row_get ws i hi]
theorem IsSet.fz {w : World} {p q n : Nat} {ws : List Nat} (h : IsSet w p q n ws) (i : Nat) : w.frozen? ⟨q, i, none⟩ = false := frozen_of_row w q i _ _ h.hq
theorem IsSet.len {w : World} {p q n : Nat} {ws : List Nat} (h : IsSet w p q n ws) : ws.length ≤ 1024 := by have a := h.hl; have b := h.hn; unfold nw at a; omega
theorem IsSet.keep {w w' : World} {p q n a : Nat} {ws : List Nat} (h : IsSet w p q n ws) (k : Chg a w w') (hp : p ≠ a) (hq : q ≠ a) : IsSet w' p q n ws :=
  ⟨(k.block p h.plt hp).trans h.hp, (k.block q h.qlt hq).trans h.hq, h.ne, h.hn, h.hl, h.wd, h.cl⟩
theorem IsSet.low {w w' : World} {p q n : Nat} {ws : List Nat} (h : IsSet w p q n ws) (k : Below w.heap.size w w') : IsSet w' p q n ws :=
  ⟨(k.block p h.plt).trans h.hp, (k.block q h.qlt).trans h.hq, h.ne, h.hn, h.hl, h.wd, h.cl⟩
/-- The same struct block holds one set. -/
theorem IsSet.same {w : World} {p q q' n n' : Nat} {ws ws' : List Nat} (h : IsSet w p q n ws) (h' : IsSet w p q' n' ws') : q = q' ∧ n = n' ∧ ws = ws' := by
  have e := h.hp.symm.trans h'.hp
  simp at e
  obtain ⟨e1, rfl, _⟩ := e
  refine ⟨rfl, by omega, ?_⟩
  have f := h.hq.symm.trans h'.hq
  simp [row] at f
  have inj : Function.Injective (fun x : Nat => Value.int IntKind.u64 (x : Int)) := by
    intro a b hab; simp at hab; omega
  exact (List.map_inj_right (fun a b => @inj a b)).1 f
/-- The words of a set turn. -/
theorem IsSet.put {w w' : World} {p q n : Nat} {ws ws' : List Nat} (h : IsSet w p q n ws) (k : Chg q w w') (hq : w'.heap[q]? = some (.cells (row ws') 59 (0, 0))) (hl : ws'.length = ws.length) (wd : Wd ws') (cl : Tidy n ws') : IsSet w' p q n ws' :=
  ⟨by rw [hl]; exact (k.block p h.plt h.ne).trans h.hp, hq, h.ne, h.hn, hl.trans h.hl, wd, cl⟩
theorem heap_drewN (w : World) (n : Nat) : (w.drewN n).heap = w.heap := rfl
end Go.Proofs.YtkagdmhijjfnnaaDoor
namespace Go.Proofs.YtkagdmhijjfnnaaDoor
open Go.RowKit Bs

theorem ret_int {k : IntKind} {a b : Int} (h : a = b) : Ending.returned (.int k a) = .returned (.int k b) := by rw [h]
theorem ret_bool {a b : Bool} (h : a = b) : Ending.returned (.bool a) = .returned (.bool b) := by rw [h]
theorem pow_cast (b : Nat) : (2 : Int) ^ b = ((2 ^ b : Nat) : Int) := by simp
theorem pow_lt64 (b : Nat) (hb : b < 64) : 2 ^ b ≤ 9223372036854775808 ∧ 0 < 2 ^ b := by
  have := Nat.pow_le_pow_right (n := 2) (by decide) (show b ≤ 63 by omega)
  exact ⟨this, Nat.two_pow_pos b⟩
theorem below_num (b : Nat) (hb : b < 64) : IntKind.u64.wrap (IntKind.u64.wrap (2 ^ b) - 1) = ((2 ^ b - 1 : Nat) : Int) := by
  have h := pow_lt64 b hb
  rw [IntKind.wrap_u64, IntKind.wrap_u64, pow_cast]
  omega

set_option maxHeartbeats 400000 in
theorem valid_any (n : Int) (w : World) : Calls Tryd.prog 52 #[.int .i64 n] w fun e w' => e = .returned (.bool (decide (0 ≤ n ∧ n ≤ 65536))) ∧ w' = w := by
  by_cases h0 : 0 ≤ n <;> by_cases h1 : n ≤ 65536
  all_goals
    go_enter Tryd.func52, Tryd.ntmps52
    go_wp2
    go_ret
    exact ⟨by simp [h0, h1], rfl⟩
theorem valid_yes (n : Int) (w : World) (h0 : 0 ≤ n) (h1 : n ≤ 65536) : Calls Tryd.prog 52 #[.int .i64 n] w fun e w' => e = .returned (.bool true) ∧ w' = w := by
  refine (valid_any n w).mono ?_
  rintro e w' ⟨rfl, rfl⟩
  exact ⟨by simp [h0, h1], rfl⟩
theorem valid_no (n : Int) (w : World) (h : ¬ (0 ≤ n ∧ n ≤ 65536)) : Calls Tryd.prog 52 #[.int .i64 n] w fun e w' => e = .returned (.bool false) ∧ w' = w := by
  refine (valid_any n w).mono ?_
  rintro e w' ⟨rfl, rfl⟩
  exact ⟨by rw [decide_eq_false h], rfl⟩
set_option maxHeartbeats 400000 in
theorem sized_any (n : Int) (w : World) : Calls Tryd.prog 11 #[.int .i64 n] w fun e w' => e = .returned (.bool (decide (0 ≤ n ∧ n ≤ 65536))) ∧ w' = w := by
  by_cases h0 : 0 ≤ n <;> by_cases h1 : n ≤ 65536
  all_goals
    go_enter Tryd.func11, Tryd.ntmps11
    go_wp2
    go_ret
    exact ⟨by simp [h0, h1], rfl⟩
set_option maxHeartbeats 400000 in
theorem num_any (n : Int) (w : World) : Calls Tryd.prog 13 #[.int .i64 n] w fun e w' => e = .returned (.int .i64 n) ∧ w' = w := by
  go_enter Tryd.func13, Tryd.ntmps13
  go_wp2
  go_ret
  exact ⟨rfl, rfl⟩

set_option maxHeartbeats 400000 in
theorem below_any (b : Nat) (w : World) (hb : b < 64) : Calls Tryd.prog 60 #[.int .i64 b] w fun e w' => e = .returned (.int .u64 ((2 ^ b - 1 : Nat) : Int)) ∧ w' = w := by
  have H := below_num b hb
  have HH : Hid (IntKind.u64.wrap (IntKind.u64.wrap (2 ^ b) - 1) = ((2 ^ b - 1 : Nat) : Int)) := H
  clear H
  go_enter Tryd.func60, Tryd.ntmps60
  go_wp2
  go_ret
  exact ⟨ret_int HH.out, rfl⟩

set_option maxHeartbeats 400000 in
theorem size_nil (w : World) : Calls Tryd.prog 26 #[.pointer none] w fun e w' => e = .returned (.int .i64 0) ∧ w' = w := by
  go_enter Tryd.func26, Tryd.ntmps26
  go_wp2
  go_ret
  exact ⟨rfl, rfl⟩
set_option maxHeartbeats 400000 in
theorem size_cell (p n : Nat) (w : World) (hc : w.cell? ⟨p, 0, none⟩ = some (.int .i64 n)) : Calls Tryd.prog 26 #[.pointer (some ⟨p, 0, none⟩)] w fun e w' => e = .returned (.int .i64 n) ∧ w' = w := by
  go_enter Tryd.func26, Tryd.ntmps26
  go_wp2
  go_ret
  exact ⟨rfl, rfl⟩
set_option maxHeartbeats 400000 in
theorem list_cell (p : Nat) (w : World) (q : Addr) (l c : Nat) (hc : w.cell? ⟨p, 1, none⟩ = some (.slice (some q) l c)) : Calls Tryd.prog 55 #[.pointer (some ⟨p, 0, none⟩)] w fun e w' => e = .returned (.slice (some q) l c) ∧ w' = w := by
  go_enter Tryd.func55, Tryd.ntmps55
  go_wp2
  go_ret
  exact ⟨rfl, rfl⟩
set_option maxHeartbeats 400000 in
theorem list_nil (w : World) : Calls Tryd.prog 55 #[.pointer none] w fun e w' => e = .returned (.slice none 0 0) ∧ w' = w := by
  go_enter Tryd.func55, Tryd.ntmps55
  go_wp2
  go_ret
  exact ⟨rfl, rfl⟩

theorem info59 : ∃ i : TypeInfo, Tryd.prog.info? 59 = some i ∧ i.zero = some (.int .u64 0) ∧ i.size = 1 ∧ i.bytes = 8 := by
  refine ⟨(Tryd.prog.info? 59).getD default, ?_, ?_, ?_, ?_⟩ <;> kernel_rfl
theorem made_row (k : Nat) : madeCells (Value.int .u64 0).cells k = row (List.replicate k 0) := by
  rw [row_zero]
  apply Array.ext
  · simp [madeCells]
  · intro i h1 h2
    simp [madeCells, Value.cells, Nat.mod_one]
theorem make_words (n : Nat) (hn : n ≤ 65536) (w : World) : Sem.run Tryd.prog (Instr.makeSlice 35 (.int .i64 (((n : Int) + 64 - 1) / 64)) (.int .i64 (((n : Int) + 64 - 1) / 64))) w =
    .ok (.slice (some ⟨w.heap.size, 0, none⟩) (nw n) (nw n)) (w.alloc (.cells (row (List.replicate (nw n) 0)) 59)) := by
  obtain ⟨i, h1, h2, h3, h4⟩ := info59
  have h := run_make (P := Tryd.prog) (w := w) 35 59 i _ Tryd.underlying35 h1 h2 .i64 .i64 (((n : Int) + 64 - 1) / 64) (((n : Int) + 64 - 1) / 64) (by omega) (by omega) (by rw [h4]; omega) (by omega)
  have e : (((n : Int) + 64 - 1) / 64).toNat = nw n := by unfold nw; omega
  rw [h3, e, Nat.mul_one, made_row] at h
  exact h

set_option maxRecDepth 100000 in
set_option maxHeartbeats 400000 in
theorem blank_mem (n : Nat) (w : World) (hn : n ≤ 65536) : Calls Tryd.prog 53 #[.int .i64 n] w fun e w' => e = .returned (.pointer (some ⟨w.heap.size + 1, 0, none⟩)) ∧
    w' = (w.alloc (.cells (row (List.replicate (nw n) 0)) 59)).alloc (.cells #[.int .i64 n, .slice (some ⟨w.heap.size, 0, none⟩) (nw n) (nw n)] 74) := by
  have hmk := make_words n hn
  go_enter Tryd.func53, Tryd.ntmps53
  go_wp2
  go_ret
  exact ⟨rfl, rfl⟩
theorem tidy_zero (k n : Nat) : Tidy n (List.replicate k 0) := by
  intro i _
  unfold mem
  rw [List.getD_eq_getElem?_getD, List.getElem?_replicate]
  split <;> simp
theorem wd_zero (k : Nat) : Wd (List.replicate k 0) := by
  intro x hx; obtain ⟨_, rfl⟩ := List.mem_replicate.1 hx; decide
theorem isSet_blank (w : World) (n : Nat) (hn : n ≤ 65536) : IsSet ((w.alloc (.cells (row (List.replicate (nw n) 0)) 59)).alloc (.cells #[.int .i64 n, .slice (some ⟨w.heap.size, 0, none⟩) (nw n) (nw n)] 74)) (w.heap.size + 1) w.heap.size n (List.replicate (nw n) 0) := by
  refine ⟨?_, ?_, by omega, hn, by simp, wd_zero _, tidy_zero _ _⟩
  · rw [heap_alloc2_new]; simp
  · rw [heap_alloc2_old]
/-- blank: a new set without members. -/
theorem blank_any (n : Nat) (w : World) (hn : n ≤ 65536) : Calls Tryd.prog 53 #[.int .i64 n] w fun e w' => e = .returned (.pointer (some ⟨w.heap.size + 1, 0, none⟩)) ∧
    IsSet w' (w.heap.size + 1) w.heap.size n (List.replicate (nw n) 0) ∧ Below w.heap.size w w' := by
  refine (blank_mem n w hn).mono ?_
  rintro e w' ⟨rfl, rfl⟩
  exact ⟨rfl, isSet_blank w n hn, ((Below.refl _ _).alloc (Nat.le_refl _) _).alloc (by simp) _⟩
set_option maxHeartbeats 400000 in
/-- New. -/
theorem new_ok (n : Nat) (w : World) (hn : n ≤ 65536) : Calls Tryd.prog 12 #[.int .i64 n] w fun e w' => e = .returned (.tuple #[.pointer (some ⟨w.heap.size + 1, 0, none⟩), .int .i64 0]) ∧
    IsSet w' (w.heap.size + 1) w.heap.size n (List.replicate (nw n) 0) ∧ Below w.heap.size w w' := by
  have h1 : (n : Int) ≤ 65536 := by omega
  go_enter Tryd.func12, Tryd.ntmps12
  go_wp2_with (first | (go_at_call 52; refine (valid_yes _ _ (by omega) h1).mono ?_; rintro e w' ⟨rfl, rfl⟩) | (go_at_call 53; refine (blank_any n _ hn).mono ?_; rintro e w' ⟨rfl, hs, hb⟩))
  go_ret2
  exact ⟨rfl, hs, hb⟩
set_option maxHeartbeats 400000 in
theorem new_no (n : Int) (w : World) (hn : ¬ (0 ≤ n ∧ n ≤ 65536)) : Calls Tryd.prog 12 #[.int .i64 n] w fun e w' => e = .returned (.tuple #[.pointer none, .int .i64 11]) ∧ w' = w := by
  have H : Hid (¬ (0 ≤ n ∧ n ≤ 65536)) := hn
  clear hn
  go_enter Tryd.func12, Tryd.ntmps12
  go_wp2_with (first | (go_at_call 52; refine (valid_no _ _ H.out).mono ?_; rintro e w' ⟨rfl, rfl⟩))
  go_ret2
  exact ⟨rfl, rfl⟩
set_option maxHeartbeats 400000 in
/-- inside. -/
theorem inside_any (p n : Nat) (i : Int) (w : World) (hc : w.cell? ⟨p, 0, none⟩ = some (.int .i64 n)) : Calls Tryd.prog 59 #[.pointer (some ⟨p, 0, none⟩), .int .i64 i] w fun e w' => e = .returned (.bool (decide (0 ≤ i ∧ i < n))) ∧ w' = w := by
  by_cases h0 : 0 ≤ i <;> by_cases h1 : i < n
  all_goals
    go_enter Tryd.func59, Tryd.ntmps59
    go_wp2_with (first | (go_at_call 26; refine (size_cell p n _ hc).mono ?_; rintro e w' ⟨rfl, rfl⟩))
    go_ret
    exact ⟨by simp [h0, h1], rfl⟩
theorem inside_yes (p n : Nat) (i : Int) (w : World) (hc : w.cell? ⟨p, 0, none⟩ = some (.int .i64 n)) (h0 : 0 ≤ i) (h1 : i < n) : Calls Tryd.prog 59 #[.pointer (some ⟨p, 0, none⟩), .int .i64 i] w fun e w' => e = .returned (.bool true) ∧ w' = w := by
  refine (inside_any p n i w hc).mono ?_
  rintro e w' ⟨rfl, rfl⟩
  exact ⟨by simp [h0, h1], rfl⟩
theorem inside_no (p n : Nat) (i : Int) (w : World) (hc : w.cell? ⟨p, 0, none⟩ = some (.int .i64 n)) (h : ¬ (0 ≤ i ∧ i < n)) : Calls Tryd.prog 59 #[.pointer (some ⟨p, 0, none⟩), .int .i64 i] w fun e w' => e = .returned (.bool false) ∧ w' = w := by
  refine (inside_any p n i w hc).mono ?_
  rintro e w' ⟨rfl, rfl⟩
  exact ⟨by rw [decide_eq_false h], rfl⟩
end Go.Proofs.YtkagdmhijjfnnaaDoor
