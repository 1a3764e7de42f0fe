import Derived.Test.YtiddnjjaidiohaaGreatDoorMgAA
namespace Go.Proofs.YtiddnjjaidiohaaGreatDoor.L
open Go.RowKit
set_option linter.unusedVariables false
set_option maxHeartbeats 4000000
set_option maxRecDepth 100000
theorem results_cell1 {fn : Func} {p : Tmp} {ty : TypeId} (h : fn.results = #[.cell p ty]) (tmps : Array Value) (P : Program) (w : World) :
    (results fn tmps).run P w = ((asAddr (tmps.getD p undef)).run P w).andThen fun a w₁ => (loadVar ty a).run P w₁ := by
  unfold results
  rw [h]
  simp [go_sem, Result.andThen]
theorem loadFm (W : World) (N : Nat) (a b c d e f g : Value) (h : W.heap[N]? = some (.cells #[a, b, c, d, e, f, g] 132 (0, 0))) : (loadVar 132 ⟨N, 0, none⟩).run Tryz.prog W = .ok (.agg #[a, b, c, d, e, f, g]) W := by
  have h0 : W.cell? ⟨N, 0, none⟩ = some a := by unfold World.cell?; rw [h]; rfl
  have h1 : W.cell? ⟨N, 1, none⟩ = some b := by unfold World.cell?; rw [h]; rfl
  have h2 : W.cell? ⟨N, 2, none⟩ = some c := by unfold World.cell?; rw [h]; rfl
  have h3 : W.cell? ⟨N, 3, none⟩ = some d := by unfold World.cell?; rw [h]; rfl
  have h4 : W.cell? ⟨N, 4, none⟩ = some e := by unfold World.cell?; rw [h]; rfl
  have h5 : W.cell? ⟨N, 5, none⟩ = some f := by unfold World.cell?; rw [h]; rfl
  have h6 : W.cell? ⟨N, 6, none⟩ = some g := by unfold World.cell?; rw [h]; rfl
  go_simp
theorem res_fm {fn : Func} {p : Tmp} (hr : fn.results = #[.cell p 132]) (tmps : Array Value) (W : World) (N : Nat) (a b c d e f g : Value) (hp : tmps.getD p undef = .pointer (some ⟨N, 0, none⟩)) (h : W.heap[N]? = some (.cells #[a, b, c, d, e, f, g] 132 (0, 0))) :
    (results fn tmps).run Tryz.prog W = .ok (.agg #[a, b, c, d, e, f, g]) W := by
  rw [results_cell1 hr, hp]
  have := loadFm W N a b c d e f g h
  simp [asAddr, this, Result.andThen]
theorem formof_any (k : Int) (w : World) : Calls Tryz.prog 68 #[.int .i64 k] w fun e w' => e = .returned (fmv (fmO k)) ∧ Below w.heap.size w w' := by
  rcases kind_cases k with (rfl | rfl | rfl | rfl | rfl | rfl | rfl | rfl | rfl | rfl | rfl | rfl | rfl | rfl | rfl | rfl | rfl | rfl | rfl | rfl) | h
  case inr =>
    have e1 : (k == 1) = false := by simp; omega
    have e2 : (k == 2) = false := by simp; omega
    have e3 : (k == 3) = false := by simp; omega
    have e4 : (k == 4) = false := by simp; omega
    have e5 : (k == 5) = false := by simp; omega
    have e6 : (k == 6) = false := by simp; omega
    have e7 : (k == 7) = false := by simp; omega
    have e8 : (k == 8) = false := by simp; omega
    have e9 : (k == 9) = false := by simp; omega
    have e10 : (k == 10) = false := by simp; omega
    have e11 : (k == 11) = false := by simp; omega
    have e12 : (k == 12) = false := by simp; omega
    have e13 : (k == 13) = false := by simp; omega
    have e14 : (k == 14) = false := by simp; omega
    have e15 : (k == 15) = false := by simp; omega
    have e16 : (k == 16) = false := by simp; omega
    have e17 : (k == 17) = false := by simp; omega
    have e18 : (k == 18) = false := by simp; omega
    have e19 : (k == 19) = false := by simp; omega
    have e20 : (k == 20) = false := by simp; omega
    have ef : fmO k = ⟨0, 0, 0, 0, false, 0, 0⟩ := by unfold fmO; repeat rw [if_neg (by omega)]
    rw [ef]
    clear ef h
    go_enter Tryz.func68, Tryz.ntmps68
    go_wp2
    (try simp only [Exit.inBlock, Exit.then])
    refine bodyPost_ret (res_fm rfl _ _ w.heap.size _ _ _ _ _ _ _ rfl (heap_alloc_new w _)) rfl ⟨rfl, belowA w _⟩
  all_goals
    go_enter Tryz.func68, Tryz.ntmps68
    go_wp2
    (try simp only [Exit.inBlock, Exit.then])
    refine bodyPost_ret (res_fm rfl _ _ w.heap.size _ _ _ _ _ _ _ rfl (heap_alloc_new w _)) rfl ⟨rfl, belowA w _⟩
end Go.Proofs.YtiddnjjaidiohaaGreatDoor.L
namespace Go.Proofs.YtiddnjjaidiohaaGreatDoor.L
open Go.RowKit
set_option linter.unusedVariables false
set_option maxHeartbeats 4000000
set_option maxRecDepth 100000
def fitsB (f : Fm) (tx : ByteArray) (nu n : Int) : Bool := decide (f.cl ≠ 0 ∧ (tx.toList = [] ∨ f.tx = true) ∧ (tx.size : Int) ≤ 127 ∧ f.lo ≤ nu ∧ nu ≤ f.hi ∧ f.ls ≤ n ∧ n ≤ f.ms)
theorem fits_any (f : Fm) (kd nu : Int) (tx : ByteArray) (a : Option Addr) (n c : Nat) (w : World) : Calls Tryz.prog 86 #[fmv f, .agg #[.int .i64 kd, .string tx, .int .i64 nu, .slice a n c]] w fun e w' => e = .returned (.bool (fitsB f tx nu n)) ∧ Below w.heap.size w w' := by
  unfold fmv
  go_enter Tryz.func86, Tryz.ntmps86
  go_wp2
  all_goals go_ret
  all_goals refine ⟨ret_bool ?_, (belowA w _).alloc (by simp) _⟩
  all_goals unfold fitsB
  all_goals first | (simp_all; done) | (simp_all; omega) | (rw [Bool.eq_iff_iff]; simp_all; done) | (rw [Bool.eq_iff_iff]; simp_all; omega)
def takesB (f : Fm) (c : Int) : Bool := decide (c = f.kd ∨ (c = 3 ∧ f.kd = 2))
theorem takes_any (f : Fm) (c : Int) (w : World) : Calls Tryz.prog 85 #[fmv f, .int .i64 c] w fun e w' => e = .returned (.bool (takesB f c)) ∧ Below w.heap.size w w' := by
  unfold fmv
  go_enter Tryz.func85, Tryz.ntmps85
  go_wp2
  all_goals go_ret
  all_goals refine ⟨ret_bool ?_, belowA w _⟩
  all_goals unfold takesB
  all_goals first | (simp_all; done) | (simp_all; omega) | (rw [Bool.eq_iff_iff]; simp_all; done) | (rw [Bool.eq_iff_iff]; simp_all; omega)
def holdsB (k : Int) (tx : ByteArray) (nu : Int) : Bool :=
  if k = 8 ∨ k = 9 ∨ k = 10 ∨ k = 11 ∨ k = 20 then decide ((tx.size : Int) ≤ 127 ∧ nu = 0)
  else if k = 6 then decide (tx.toList = [] ∧ 1 ≤ nu ∧ nu ≤ 6)
  else if k = 7 then decide (tx.toList = [] ∧ (nu = 0 ∨ nu = 1))
  else if k = 12 then decide (tx.toList = [] ∧ -999999999999999999 ≤ nu ∧ nu ≤ 999999999999999999)
  else if k = 14 ∨ k = 18 then decide ((tx.size : Int) ≤ 127 ∧ 1 ≤ nu ∧ nu ≤ 3)
  else if k = 15 ∨ k = 16 ∨ k = 17 then decide (tx.toList = [] ∧ 1 ≤ nu ∧ nu ≤ 3)
  else decide (tx.toList = [] ∧ nu = 0)
theorem rholds_any (k nu : Int) (tx : ByteArray) (a : Option Addr) (n c : Nat) (w : World) : Calls Tryz.prog 72 #[.agg #[.int .i64 k, .string tx, .int .i64 nu, .slice a n c]] w fun e w' => e = .returned (.bool (holdsB k tx nu)) ∧ Below w.heap.size w w' := by
  rcases kind_cases k with (rfl | rfl | rfl | rfl | rfl | rfl | rfl | rfl | rfl | rfl | rfl | rfl | rfl | rfl | rfl | rfl | rfl | rfl | rfl | rfl) | h
  case inr =>
    have e1 : (k == 1) = false := by simp; omega
    have e2 : (k == 2) = false := by simp; omega
    have e3 : (k == 3) = false := by simp; omega
    have e4 : (k == 4) = false := by simp; omega
    have e5 : (k == 5) = false := by simp; omega
    have e6 : (k == 6) = false := by simp; omega
    have e7 : (k == 7) = false := by simp; omega
    have e8 : (k == 8) = false := by simp; omega
    have e9 : (k == 9) = false := by simp; omega
    have e10 : (k == 10) = false := by simp; omega
    have e11 : (k == 11) = false := by simp; omega
    have e12 : (k == 12) = false := by simp; omega
    have e13 : (k == 13) = false := by simp; omega
    have e14 : (k == 14) = false := by simp; omega
    have e15 : (k == 15) = false := by simp; omega
    have e16 : (k == 16) = false := by simp; omega
    have e17 : (k == 17) = false := by simp; omega
    have e18 : (k == 18) = false := by simp; omega
    have e19 : (k == 19) = false := by simp; omega
    have e20 : (k == 20) = false := by simp; omega
    have ef : holdsB k tx nu = decide (tx.toList = [] ∧ nu = 0) := by unfold holdsB; repeat rw [if_neg (by omega)]
    rw [ef]
    clear ef h
    go_enter Tryz.func72, Tryz.ntmps72
    go_wp2
    all_goals go_ret
    all_goals refine ⟨ret_bool ?_, belowA w _⟩
    all_goals first | (simp_all; done) | (simp_all; omega) | (rw [Bool.eq_iff_iff]; simp_all; done) | (rw [Bool.eq_iff_iff]; simp_all; omega)
  all_goals
    go_enter Tryz.func72, Tryz.ntmps72
    go_wp2
    all_goals go_ret
    all_goals refine ⟨ret_bool ?_, belowA w _⟩
    all_goals unfold holdsB
    all_goals first | (simp_all; done) | (simp_all; omega) | (rw [Bool.eq_iff_iff]; simp_all; done) | (rw [Bool.eq_iff_iff]; simp_all; omega)
end Go.Proofs.YtiddnjjaidiohaaGreatDoor.L
