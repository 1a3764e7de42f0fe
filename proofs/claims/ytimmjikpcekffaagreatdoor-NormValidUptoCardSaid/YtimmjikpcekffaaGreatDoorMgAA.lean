import Derived.WalkKit
import Derived.WalkSpells
import Derived.WalkLawsBesides
import Derived.Handy
import Derived.Test.YtimmjikpcekffaaGreatDoorProg
import Derived.Deep.QuietTactic
import Derived.Deep.RegionHeld3
import Derived.BigQuiet
import Derived.OwnWalk
import Derived.Laws.AppendOwnNone
import Derived.RangeFuncBox
import Derived.Deep.Cut
namespace Go.Proofs.YtimmjikpcekffaaGreatDoor.L
open Go.RowKit
set_option linter.unusedVariables false
theorem hid {p : Prop} (h : p) : Hid p := h
theorem ret_bool {a b : Bool} (h : a = b) : Ending.returned (.bool a) = .returned (.bool b) := by rw [h]
theorem below_drewN {B : Nat} {a w : World} (h : Below B a w) (n : Nat) : Below B a (w.drewN n) := ⟨h.os, h.tape, h.output, h.size, h.block⟩
theorem belowA (w : World) (o : Obj) : Below w.heap.size w (w.alloc o) := (Below.refl _ _).alloc (Nat.le_refl _) _
theorem lt_blk {W : World} {k : Nat} {o : Obj} (h : W.heap[k]? = some o) : k < W.heap.size := (Array.getElem?_eq_some_iff.1 h).1
/-- What a kind's parts hold. -/
structure Fm where
  cl : Int
  kd : Int
  ls : Int
  ms : Int
  tx : Bool
  lo : Int
  hi : Int
def fmv (f : Fm) : Value := .agg #[.int .i64 f.cl, .int .i64 f.kd, .int .i64 f.ls, .int .i64 f.ms, .bool f.tx, .int .i64 f.lo, .int .i64 f.hi]
def fmO (k : Int) : Fm :=
  if k = 1 ∨ k = 2 then ⟨1, 0, 0, 0, false, 0, 0⟩
  else if k = 3 then ⟨1, 1, 1, 1, false, 0, 0⟩
  else if k = 4 ∨ k = 5 then ⟨1, 1, 2, 1000, false, 0, 0⟩
  else if k = 6 then ⟨1, 2, 2, 2, false, 1, 6⟩
  else if k = 7 then ⟨1, 2, 2, 2, false, 0, 1⟩
  else if k = 8 ∨ k = 9 then ⟨1, 1, 1, 1, true, 0, 0⟩
  else if k = 10 then ⟨1, 0, 0, 0, true, 0, 0⟩
  else if k = 11 then ⟨3, 0, 0, 0, true, 0, 0⟩
  else if k = 12 then ⟨3, 0, 0, 0, false, -999999999999999999, 999999999999999999⟩
  else if k = 13 then ⟨2, 3, 0, 64, false, 0, 0⟩
  else if k = 14 ∨ k = 18 then ⟨2, 0, 0, 0, true, 1, 3⟩
  else if k = 15 ∨ k = 16 ∨ k = 17 then ⟨2, 0, 0, 0, false, 1, 3⟩
  else if k = 19 then ⟨2, 2, 1, 1, false, 0, 0⟩
  else if k = 20 then ⟨2, 1, 1, 1, true, 0, 0⟩
  else ⟨0, 0, 0, 0, false, 0, 0⟩
theorem kind_cases (k : Int) : (k = 1 ∨ k = 2 ∨ k = 3 ∨ k = 4 ∨ k = 5 ∨ k = 6 ∨ k = 7 ∨ k = 8 ∨ k = 9 ∨ k = 10 ∨ k = 11 ∨ k = 12 ∨ k = 13 ∨ k = 14 ∨ k = 15 ∨ k = 16 ∨ k = 17 ∨ k = 18 ∨ k = 19 ∨ k = 20) ∨ (k < 1 ∨ 20 < k) := by omega
end Go.Proofs.YtimmjikpcekffaaGreatDoor.L
namespace Go.Proofs.YtimmjikpcekffaaGreatDoor.L
open Go.RowKit
set_option linter.unusedVariables false
set_option maxHeartbeats 4000000
set_option maxRecDepth 100000
theorem results_cell1 {fn : Func} {p : Tmp} {ty : TypeId} (h : fn.results = #[.cell p ty]) (tmps : Array Value) (P : Program) (w : World) :
    (results fn tmps).run P w = ((asAddr (tmps.getD p undef)).run P w).andThen fun a w₁ => (loadVar ty a).run P w₁ := by
  unfold results
  rw [h]
  simp [go_sem, Result.andThen]
theorem loadFm (W : World) (N : Nat) (a b c d e f g : Value) (h : W.heap[N]? = some (.cells #[a, b, c, d, e, f, g] 162 (0, 0))) : (loadVar 162 ⟨N, 0, none⟩).run Tryz.prog W = .ok (.agg #[a, b, c, d, e, f, g]) W := by
  have h0 : W.cell? ⟨N, 0, none⟩ = some a := by unfold World.cell?; rw [h]; rfl
  have h1 : W.cell? ⟨N, 1, none⟩ = some b := by unfold World.cell?; rw [h]; rfl
  have h2 : W.cell? ⟨N, 2, none⟩ = some c := by unfold World.cell?; rw [h]; rfl
  have h3 : W.cell? ⟨N, 3, none⟩ = some d := by unfold World.cell?; rw [h]; rfl
  have h4 : W.cell? ⟨N, 4, none⟩ = some e := by unfold World.cell?; rw [h]; rfl
  have h5 : W.cell? ⟨N, 5, none⟩ = some f := by unfold World.cell?; rw [h]; rfl
  have h6 : W.cell? ⟨N, 6, none⟩ = some g := by unfold World.cell?; rw [h]; rfl
  go_simp
theorem res_fm {fn : Func} {p : Tmp} (hr : fn.results = #[.cell p 162]) (tmps : Array Value) (W : World) (N : Nat) (a b c d e f g : Value) (hp : tmps.getD p undef = .pointer (some ⟨N, 0, none⟩)) (h : W.heap[N]? = some (.cells #[a, b, c, d, e, f, g] 162 (0, 0))) :
    (results fn tmps).run Tryz.prog W = .ok (.agg #[a, b, c, d, e, f, g]) W := by
  rw [results_cell1 hr, hp]
  have := loadFm W N a b c d e f g h
  simp [asAddr, this, Result.andThen]
theorem formof_any (k : Int) (w : World) : Calls Tryz.prog 96 #[.int .i64 k] w fun e w' => e = .returned (fmv (fmO k)) ∧ Below w.heap.size w w' := by
  rcases kind_cases k with (rfl | rfl | rfl | rfl | rfl | rfl | rfl | rfl | rfl | rfl | rfl | rfl | rfl | rfl | rfl | rfl | rfl | rfl | rfl | rfl) | h
  case inr =>
    have e1 : (k == 1) = false := by simp; omega
    have e2 : (k == 2) = false := by simp; omega
    have e3 : (k == 3) = false := by simp; omega
    have e4 : (k == 4) = false := by simp; omega
    have e5 : (k == 5) = false := by simp; omega
    have e6 : (k == 6) = false := by simp; omega
    have e7 : (k == 7) = false := by simp; omega
    have e8 : (k == 8) = false := by simp; omega
    have e9 : (k == 9) = false := by simp; omega
    have e10 : (k == 10) = false := by simp; omega
    have e11 : (k == 11) = false := by simp; omega
    have e12 : (k == 12) = false := by simp; omega
    have e13 : (k == 13) = false := by simp; omega
    have e14 : (k == 14) = false := by simp; omega
    have e15 : (k == 15) = false := by simp; omega
    have e16 : (k == 16) = false := by simp; omega
    have e17 : (k == 17) = false := by simp; omega
    have e18 : (k == 18) = false := by simp; omega
    have e19 : (k == 19) = false := by simp; omega
    have e20 : (k == 20) = false := by simp; omega
    have ef : fmO k = ⟨0, 0, 0, 0, false, 0, 0⟩ := by unfold fmO; repeat rw [if_neg (by omega)]
    rw [ef]
    clear ef h
    go_enter Tryz.func96, Tryz.ntmps96
    go_wp2
    (try simp only [Exit.inBlock, Exit.then])
    refine bodyPost_ret (res_fm rfl _ _ w.heap.size _ _ _ _ _ _ _ rfl (heap_alloc_new w _)) rfl ⟨rfl, belowA w _⟩
  all_goals
    go_enter Tryz.func96, Tryz.ntmps96
    go_wp2
    (try simp only [Exit.inBlock, Exit.then])
    refine bodyPost_ret (res_fm rfl _ _ w.heap.size _ _ _ _ _ _ _ rfl (heap_alloc_new w _)) rfl ⟨rfl, belowA w _⟩
end Go.Proofs.YtimmjikpcekffaaGreatDoor.L
namespace Go.Proofs.YtimmjikpcekffaaGreatDoor.L
open Go.RowKit
set_option linter.unusedVariables false
set_option maxHeartbeats 4000000
set_option maxRecDepth 100000
def fitsB (f : Fm) (tx : ByteArray) (nu n : Int) : Bool := decide (f.cl ≠ 0 ∧ (tx.toList = [] ∨ f.tx = true) ∧ (tx.size : Int) ≤ 127 ∧ f.lo ≤ nu ∧ nu ≤ f.hi ∧ f.ls ≤ n ∧ n ≤ f.ms)
theorem fits_any (f : Fm) (kd nu : Int) (tx : ByteArray) (a : Option Addr) (n c : Nat) (w : World) : Calls Tryz.prog 118 #[fmv f, .agg #[.int .i64 kd, .string tx, .int .i64 nu, .slice a n c]] w fun e w' => e = .returned (.bool (fitsB f tx nu n)) ∧ Below w.heap.size w w' := by
  unfold fmv
  go_enter Tryz.func118, Tryz.ntmps118
  go_wp2
  all_goals go_ret
  all_goals refine ⟨ret_bool ?_, (belowA w _).alloc (by simp) _⟩
  all_goals unfold fitsB
  all_goals first | (simp_all; done) | (simp_all; omega) | (rw [Bool.eq_iff_iff]; simp_all; done) | (rw [Bool.eq_iff_iff]; simp_all; omega)
def takesB (f : Fm) (c : Int) : Bool := decide (c = f.kd ∨ (c = 3 ∧ f.kd = 2))
theorem takes_any (f : Fm) (c : Int) (w : World) : Calls Tryz.prog 117 #[fmv f, .int .i64 c] w fun e w' => e = .returned (.bool (takesB f c)) ∧ Below w.heap.size w w' := by
  unfold fmv
  go_enter Tryz.func117, Tryz.ntmps117
  go_wp2
  all_goals go_ret
  all_goals refine ⟨ret_bool ?_, belowA w _⟩
  all_goals unfold takesB
  all_goals first | (simp_all; done) | (simp_all; omega) | (rw [Bool.eq_iff_iff]; simp_all; done) | (rw [Bool.eq_iff_iff]; simp_all; omega)
def holdsB (k : Int) (tx : ByteArray) (nu : Int) : Bool :=
  if k = 8 ∨ k = 9 ∨ k = 10 ∨ k = 11 ∨ k = 20 then decide ((tx.size : Int) ≤ 127 ∧ nu = 0)
  else if k = 6 then decide (tx.toList = [] ∧ 1 ≤ nu ∧ nu ≤ 6)
  else if k = 7 then decide (tx.toList = [] ∧ (nu = 0 ∨ nu = 1))
  else if k = 12 then decide (tx.toList = [] ∧ -999999999999999999 ≤ nu ∧ nu ≤ 999999999999999999)
  else if k = 14 ∨ k = 18 then decide ((tx.size : Int) ≤ 127 ∧ 1 ≤ nu ∧ nu ≤ 3)
  else if k = 15 ∨ k = 16 ∨ k = 17 then decide (tx.toList = [] ∧ 1 ≤ nu ∧ nu ≤ 3)
  else decide (tx.toList = [] ∧ nu = 0)
end Go.Proofs.YtimmjikpcekffaaGreatDoor.L
namespace Go.Proofs.YtimmjikpcekffaaGreatDoor.L
open Go.RowKit
set_option linter.unusedVariables false
set_option maxHeartbeats 4000000
set_option maxRecDepth 100000
theorem toodeep_any (k : Int) (w : World) : Calls Tryz.prog 65 #[.int .i64 k] w fun e w' => e = .returned (.bool (decide (32 < k))) ∧ w' = w := by
  go_enter Tryz.func65, Tryz.ntmps65
  go_wp2
  all_goals go_ret
  all_goals refine ⟨ret_bool ?_, rfl⟩
  all_goals first | (simp_all; done) | (simp_all; omega) | (rw [Bool.eq_iff_iff]; simp_all; done) | (rw [Bool.eq_iff_iff]; simp_all; omega)
def kidsB (k n : Int) : Bool :=
  if k = 3 ∨ k = 8 ∨ k = 9 ∨ k = 19 ∨ k = 20 then decide (n = 1)
  else if k = 4 ∨ k = 5 then decide (2 ≤ n)
  else if k = 6 ∨ k = 7 then decide (n = 2)
  else if k = 13 then decide (n ≤ 64)
  else decide (n = 0)
def brB (k n : Int) : Bool :=
  if k = 3 ∨ k = 4 then decide (n = 4 ∨ n = 5)
  else if k = 5 then decide (n = 5)
  else false
theorem grouped_any (k n : Int) (w : World) : Calls Tryz.prog 121 #[.int .i64 k, .int .i64 n] w fun e w' => e = .returned (.bool (brB k n)) ∧ w' = w := by
  rcases kind_cases k with (rfl | rfl | rfl | rfl | rfl | rfl | rfl | rfl | rfl | rfl | rfl | rfl | rfl | rfl | rfl | rfl | rfl | rfl | rfl | rfl) | h
  case inr =>
    have e1 : (k == 1) = false := by simp; omega
    have e2 : (k == 2) = false := by simp; omega
    have e3 : (k == 3) = false := by simp; omega
    have e4 : (k == 4) = false := by simp; omega
    have e5 : (k == 5) = false := by simp; omega
    have e6 : (k == 6) = false := by simp; omega
    have e7 : (k == 7) = false := by simp; omega
    have e8 : (k == 8) = false := by simp; omega
    have e9 : (k == 9) = false := by simp; omega
    have e10 : (k == 10) = false := by simp; omega
    have e11 : (k == 11) = false := by simp; omega
    have e12 : (k == 12) = false := by simp; omega
    have e13 : (k == 13) = false := by simp; omega
    have e14 : (k == 14) = false := by simp; omega
    have e15 : (k == 15) = false := by simp; omega
    have e16 : (k == 16) = false := by simp; omega
    have e17 : (k == 17) = false := by simp; omega
    have e18 : (k == 18) = false := by simp; omega
    have e19 : (k == 19) = false := by simp; omega
    have e20 : (k == 20) = false := by simp; omega
    have ef : brB k n = false := by unfold brB; repeat rw [if_neg (by omega)]
    rw [ef]
    clear ef h
    go_enter Tryz.func121, Tryz.ntmps121
    go_wp2
    all_goals go_ret
    all_goals refine ⟨ret_bool ?_, rfl⟩
    all_goals first | (simp_all; done) | (simp_all; omega) | (rw [Bool.eq_iff_iff]; simp_all; done) | (rw [Bool.eq_iff_iff]; simp_all; omega)
  all_goals
    go_enter Tryz.func121, Tryz.ntmps121
    go_wp2
    all_goals go_ret
    all_goals refine ⟨ret_bool ?_, rfl⟩
    all_goals unfold brB
    all_goals first | (simp_all; done) | (simp_all; omega) | (rw [Bool.eq_iff_iff]; simp_all; done) | (rw [Bool.eq_iff_iff]; simp_all; omega)
def opB (k : Int) : Bool :=
  if k = 3 ∨ k = 8 ∨ k = 9 ∨ k = 20 ∨ k = 19 then true
  else false
theorem opens_any (k : Int) (w : World) : Calls Tryz.prog 120 #[.int .i64 k] w fun e w' => e = .returned (.bool (opB k)) ∧ w' = w := by
  rcases kind_cases k with (rfl | rfl | rfl | rfl | rfl | rfl | rfl | rfl | rfl | rfl | rfl | rfl | rfl | rfl | rfl | rfl | rfl | rfl | rfl | rfl) | h
  case inr =>
    have e1 : (k == 1) = false := by simp; omega
    have e2 : (k == 2) = false := by simp; omega
    have e3 : (k == 3) = false := by simp; omega
    have e4 : (k == 4) = false := by simp; omega
    have e5 : (k == 5) = false := by simp; omega
    have e6 : (k == 6) = false := by simp; omega
    have e7 : (k == 7) = false := by simp; omega
    have e8 : (k == 8) = false := by simp; omega
    have e9 : (k == 9) = false := by simp; omega
    have e10 : (k == 10) = false := by simp; omega
    have e11 : (k == 11) = false := by simp; omega
    have e12 : (k == 12) = false := by simp; omega
    have e13 : (k == 13) = false := by simp; omega
    have e14 : (k == 14) = false := by simp; omega
    have e15 : (k == 15) = false := by simp; omega
    have e16 : (k == 16) = false := by simp; omega
    have e17 : (k == 17) = false := by simp; omega
    have e18 : (k == 18) = false := by simp; omega
    have e19 : (k == 19) = false := by simp; omega
    have e20 : (k == 20) = false := by simp; omega
    have ef : opB k = false := by unfold opB; repeat rw [if_neg (by omega)]
    rw [ef]
    clear ef h
    go_enter Tryz.func120, Tryz.ntmps120
    go_wp2
    all_goals go_ret
    all_goals refine ⟨ret_bool ?_, rfl⟩
    all_goals first | (simp_all; done) | (simp_all; omega) | (rw [Bool.eq_iff_iff]; simp_all; done) | (rw [Bool.eq_iff_iff]; simp_all; omega)
  all_goals
    go_enter Tryz.func120, Tryz.ntmps120
    go_wp2
    all_goals go_ret
    all_goals refine ⟨ret_bool ?_, rfl⟩
    all_goals unfold opB
    all_goals first | (simp_all; done) | (simp_all; omega) | (rw [Bool.eq_iff_iff]; simp_all; done) | (rw [Bool.eq_iff_iff]; simp_all; omega)
def clsB (k n : Int) : Bool :=
  if k = 6 ∨ k = 7 ∨ k = 19 then decide (11 ≤ n ∧ n ≤ 20)
  else if k = 13 then decide (n = 11 ∨ n = 12)
  else decide (1 ≤ n ∧ n ≤ 10)
theorem between_any (k n : Int) (w : World) : Calls Tryz.prog 98 #[.int .i64 k, .int .i64 n] w fun e w' => e = .returned (.int .i64 ((if opB k then 1 else 0) + (if brB k n then 1 else 0))) ∧ w' = w := by
  have HO := hid opens_any
  have HG := hid grouped_any
  go_enter Tryz.func98, Tryz.ntmps98
  go_wp2_with (first | (go_at_call 120; refine (HO.out _ _).mono ?_; rintro e w1 ⟨rfl, hww⟩; have hw2 := hww.symm; clear hww; subst hw2) | (go_at_call 121; refine (HG.out _ _ _).mono ?_; rintro e w1 ⟨rfl, hww⟩; have hw2 := hww.symm; clear hww; subst hw2))
  all_goals go_ret
  all_goals simp_all
end Go.Proofs.YtimmjikpcekffaaGreatDoor.L
