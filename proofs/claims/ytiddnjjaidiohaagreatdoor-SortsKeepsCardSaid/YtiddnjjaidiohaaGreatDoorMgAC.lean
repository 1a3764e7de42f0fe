import Derived.Test.YtiddnjjaidiohaaGreatDoorMgAB
import Derived.Test.YtiddnjjaidiohaaGreatDoorMgAA
namespace Go.Proofs.YtiddnjjaidiohaaGreatDoor.L
open Go.RowKit
set_option linter.unusedVariables false
def eqS (s t : ByteArray) : Bool := s.toList == t.toList
theorem eqS_iff {s t : ByteArray} : eqS s t = true ↔ s = t := by
  unfold eqS
  constructor
  · intro h
    exact bytes_ext (by simpa using h)
  · rintro rfl
    simp
theorem eqS_ne {s t : ByteArray} : eqS s t = false ↔ s ≠ t := by
  cases e : eqS s t
  · simp
    intro h
    rw [eqS_iff.2 h] at e
    cases e
  · simp
    exact eqS_iff.1 e
def sNS : ByteArray := ⟨#[78, 111, 83, 99, 104, 101, 100, 117, 108, 101]⟩
def sPN : ByteArray := ⟨#[80, 114, 101, 102, 101, 114, 78, 111, 83, 99, 104, 101, 100, 117, 108, 101]⟩
def sNE : ByteArray := ⟨#[78, 111, 69, 120, 101, 99, 117, 116, 101]⟩
def sEq : ByteArray := ⟨#[69, 113, 117, 97, 108]⟩
def sEx : ByteArray := ⟨#[69, 120, 105, 115, 116, 115]⟩
theorem lNS : sNS.toList = [78, 111, 83, 99, 104, 101, 100, 117, 108, 101] := bytes_toList _
theorem lPN : sPN.toList = [80, 114, 101, 102, 101, 114, 78, 111, 83, 99, 104, 101, 100, 117, 108, 101] := bytes_toList _
theorem lNE : sNE.toList = [78, 111, 69, 120, 101, 99, 117, 116, 101] := bytes_toList _
theorem lEq : sEq.toList = [69, 113, 117, 97, 108] := bytes_toList _
theorem lEx : sEx.toList = [69, 120, 105, 115, 116, 115] := bytes_toList _
def effB (s : ByteArray) : Bool := eqS s sNS || eqS s sPN || eqS s sNE
def emB (s : ByteArray) : Bool := s.toList.isEmpty
theorem emB_iff {s : ByteArray} : emB s = true ↔ s = ByteArray.empty := by
  unfold emB
  rw [bytes_toList]
  constructor
  · intro h
    exact Go.WideShapes.bytes_inj (by simpa using h)
  · rintro rfl
    rfl
set_option maxHeartbeats 4000000 in
theorem effect_any (s : ByteArray) (w : World) : Calls Tryz.prog 98 #[.string s] w fun e w' => e = .returned (.bool (effB s)) ∧ w' = w := by
  unfold effB eqS
  rw [lNS, lPN, lNE]
  cases e1 : (s.toList == [78, 111, 83, 99, 104, 101, 100, 117, 108, 101])
  · cases e2 : (s.toList == [80, 114, 101, 102, 101, 114, 78, 111, 83, 99, 104, 101, 100, 117, 108, 101])
    · cases e3 : (s.toList == [78, 111, 69, 120, 101, 99, 117, 116, 101]) <;>
      · go_enter Tryz.func98, Tryz.ntmps98
        go_wp2
        go_ret
        exact ⟨rfl, rfl⟩
    · go_enter Tryz.func98, Tryz.ntmps98
      go_wp2
      go_ret
      exact ⟨rfl, rfl⟩
  · go_enter Tryz.func98, Tryz.ntmps98
    go_wp2
    go_ret
    exact ⟨rfl, rfl⟩
end Go.Proofs.YtiddnjjaidiohaaGreatDoor.L
namespace Go.Proofs.YtiddnjjaidiohaaGreatDoor.L
open Go.RowKit
set_option linter.unusedVariables false
set_option maxHeartbeats 4000000
set_option maxRecDepth 100000
theorem results_cell1 {fn : Func} {p : Tmp} {ty : TypeId} (h : fn.results = #[.cell p ty]) (tmps : Array Value) (P : Program) (w : World) :
    (results fn tmps).run P w = ((asAddr (tmps.getD p undef)).run P w).andThen fun a w₁ => (loadVar ty a).run P w₁ := by
  unfold results
  rw [h]
  simp [go_sem, Result.andThen]
theorem loadFm (W : World) (N : Nat) (a b c d e f g : Value) (h : W.heap[N]? = some (.cells #[a, b, c, d, e, f, g] 132 (0, 0))) : (loadVar 132 ⟨N, 0, none⟩).run Tryz.prog W = .ok (.agg #[a, b, c, d, e, f, g]) W := by
  have h0 : W.cell? ⟨N, 0, none⟩ = some a := by unfold World.cell?; rw [h]; rfl
  have h1 : W.cell? ⟨N, 1, none⟩ = some b := by unfold World.cell?; rw [h]; rfl
  have h2 : W.cell? ⟨N, 2, none⟩ = some c := by unfold World.cell?; rw [h]; rfl
  have h3 : W.cell? ⟨N, 3, none⟩ = some d := by unfold World.cell?; rw [h]; rfl
  have h4 : W.cell? ⟨N, 4, none⟩ = some e := by unfold World.cell?; rw [h]; rfl
  have h5 : W.cell? ⟨N, 5, none⟩ = some f := by unfold World.cell?; rw [h]; rfl
  have h6 : W.cell? ⟨N, 6, none⟩ = some g := by unfold World.cell?; rw [h]; rfl
  go_simp
theorem res_fm {fn : Func} {p : Tmp} (hr : fn.results = #[.cell p 132]) (tmps : Array Value) (W : World) (N : Nat) (a b c d e f g : Value) (hp : tmps.getD p undef = .pointer (some ⟨N, 0, none⟩)) (h : W.heap[N]? = some (.cells #[a, b, c, d, e, f, g] 132 (0, 0))) :
    (results fn tmps).run Tryz.prog W = .ok (.agg #[a, b, c, d, e, f, g]) W := by
  rw [results_cell1 hr, hp]
  have := loadFm W N a b c d e f g h
  simp [asAddr, this, Result.andThen]
theorem formof_any (k : Int) (w : World) : Calls Tryz.prog 68 #[.int .i64 k] w fun e w' => e = .returned (fmv (fmO k)) ∧ Below w.heap.size w w' := by
  rcases kind_cases k with (rfl | rfl | rfl | rfl | rfl | rfl | rfl | rfl | rfl | rfl | rfl | rfl | rfl | rfl | rfl | rfl | rfl | rfl | rfl | rfl) | h
  case inr =>
    have e1 : (k == 1) = false := by simp; omega
    have e2 : (k == 2) = false := by simp; omega
    have e3 : (k == 3) = false := by simp; omega
    have e4 : (k == 4) = false := by simp; omega
    have e5 : (k == 5) = false := by simp; omega
    have e6 : (k == 6) = false := by simp; omega
    have e7 : (k == 7) = false := by simp; omega
    have e8 : (k == 8) = false := by simp; omega
    have e9 : (k == 9) = false := by simp; omega
    have e10 : (k == 10) = false := by simp; omega
    have e11 : (k == 11) = false := by simp; omega
    have e12 : (k == 12) = false := by simp; omega
    have e13 : (k == 13) = false := by simp; omega
    have e14 : (k == 14) = false := by simp; omega
    have e15 : (k == 15) = false := by simp; omega
    have e16 : (k == 16) = false := by simp; omega
    have e17 : (k == 17) = false := by simp; omega
    have e18 : (k == 18) = false := by simp; omega
    have e19 : (k == 19) = false := by simp; omega
    have e20 : (k == 20) = false := by simp; omega
    have ef : fmO k = ⟨0, 0, 0, 0, false, 0, 0⟩ := by unfold fmO; repeat rw [if_neg (by omega)]
    rw [ef]
    clear ef h
    go_enter Tryz.func68, Tryz.ntmps68
    go_wp2
    (try simp only [Exit.inBlock, Exit.then])
    refine bodyPost_ret (res_fm rfl _ _ w.heap.size _ _ _ _ _ _ _ rfl (heap_alloc_new w _)) rfl ⟨rfl, belowA w _⟩
  all_goals
    go_enter Tryz.func68, Tryz.ntmps68
    go_wp2
    (try simp only [Exit.inBlock, Exit.then])
    refine bodyPost_ret (res_fm rfl _ _ w.heap.size _ _ _ _ _ _ _ rfl (heap_alloc_new w _)) rfl ⟨rfl, belowA w _⟩
end Go.Proofs.YtiddnjjaidiohaaGreatDoor.L
namespace Go.Proofs.YtiddnjjaidiohaaGreatDoor.L
open Go.RowKit
set_option linter.unusedVariables false
set_option maxHeartbeats 4000000
set_option maxRecDepth 100000
def fitsB (f : Fm) (tx : ByteArray) (nu n : Int) : Bool := decide (f.cl ≠ 0 ∧ (tx.toList = [] ∨ f.tx = true) ∧ (tx.size : Int) ≤ 127 ∧ f.lo ≤ nu ∧ nu ≤ f.hi ∧ f.ls ≤ n ∧ n ≤ f.ms)
theorem fits_any (f : Fm) (kd nu : Int) (tx : ByteArray) (a : Option Addr) (n c : Nat) (w : World) : Calls Tryz.prog 86 #[fmv f, .agg #[.int .i64 kd, .string tx, .int .i64 nu, .slice a n c]] w fun e w' => e = .returned (.bool (fitsB f tx nu n)) ∧ Below w.heap.size w w' := by
  unfold fmv
  go_enter Tryz.func86, Tryz.ntmps86
  go_wp2
  all_goals go_ret
  all_goals refine ⟨ret_bool ?_, (belowA w _).alloc (by simp) _⟩
  all_goals unfold fitsB
  all_goals first | (simp_all; done) | (simp_all; omega) | (rw [Bool.eq_iff_iff]; simp_all; done) | (rw [Bool.eq_iff_iff]; simp_all; omega)
def takesB (f : Fm) (c : Int) : Bool := decide (c = f.kd ∨ (c = 3 ∧ f.kd = 2))
theorem takes_any (f : Fm) (c : Int) (w : World) : Calls Tryz.prog 85 #[fmv f, .int .i64 c] w fun e w' => e = .returned (.bool (takesB f c)) ∧ Below w.heap.size w w' := by
  unfold fmv
  go_enter Tryz.func85, Tryz.ntmps85
  go_wp2
  all_goals go_ret
  all_goals refine ⟨ret_bool ?_, belowA w _⟩
  all_goals unfold takesB
  all_goals first | (simp_all; done) | (simp_all; omega) | (rw [Bool.eq_iff_iff]; simp_all; done) | (rw [Bool.eq_iff_iff]; simp_all; omega)
def holdsB (k : Int) (tx : ByteArray) (nu : Int) : Bool :=
  if k = 8 ∨ k = 9 ∨ k = 10 ∨ k = 11 ∨ k = 20 then decide ((tx.size : Int) ≤ 127 ∧ nu = 0)
  else if k = 6 then decide (tx.toList = [] ∧ 1 ≤ nu ∧ nu ≤ 6)
  else if k = 7 then decide (tx.toList = [] ∧ (nu = 0 ∨ nu = 1))
  else if k = 12 then decide (tx.toList = [] ∧ -999999999999999999 ≤ nu ∧ nu ≤ 999999999999999999)
  else if k = 14 ∨ k = 18 then decide ((tx.size : Int) ≤ 127 ∧ 1 ≤ nu ∧ nu ≤ 3)
  else if k = 15 ∨ k = 16 ∨ k = 17 then decide (tx.toList = [] ∧ 1 ≤ nu ∧ nu ≤ 3)
  else decide (tx.toList = [] ∧ nu = 0)
theorem rholds_any (k nu : Int) (tx : ByteArray) (a : Option Addr) (n c : Nat) (w : World) : Calls Tryz.prog 72 #[.agg #[.int .i64 k, .string tx, .int .i64 nu, .slice a n c]] w fun e w' => e = .returned (.bool (holdsB k tx nu)) ∧ Below w.heap.size w w' := by
  rcases kind_cases k with (rfl | rfl | rfl | rfl | rfl | rfl | rfl | rfl | rfl | rfl | rfl | rfl | rfl | rfl | rfl | rfl | rfl | rfl | rfl | rfl) | h
  case inr =>
    have e1 : (k == 1) = false := by simp; omega
    have e2 : (k == 2) = false := by simp; omega
    have e3 : (k == 3) = false := by simp; omega
    have e4 : (k == 4) = false := by simp; omega
    have e5 : (k == 5) = false := by simp; omega
    have e6 : (k == 6) = false := by simp; omega
    have e7 : (k == 7) = false := by simp; omega
    have e8 : (k == 8) = false := by simp; omega
    have e9 : (k == 9) = false := by simp; omega
    have e10 : (k == 10) = false := by simp; omega
    have e11 : (k == 11) = false := by simp; omega
    have e12 : (k == 12) = false := by simp; omega
    have e13 : (k == 13) = false := by simp; omega
    have e14 : (k == 14) = false := by simp; omega
    have e15 : (k == 15) = false := by simp; omega
    have e16 : (k == 16) = false := by simp; omega
    have e17 : (k == 17) = false := by simp; omega
    have e18 : (k == 18) = false := by simp; omega
    have e19 : (k == 19) = false := by simp; omega
    have e20 : (k == 20) = false := by simp; omega
    have ef : holdsB k tx nu = decide (tx.toList = [] ∧ nu = 0) := by unfold holdsB; repeat rw [if_neg (by omega)]
    rw [ef]
    clear ef h
    go_enter Tryz.func72, Tryz.ntmps72
    go_wp2
    all_goals go_ret
    all_goals refine ⟨ret_bool ?_, belowA w _⟩
    all_goals first | (simp_all; done) | (simp_all; omega) | (rw [Bool.eq_iff_iff]; simp_all; done) | (rw [Bool.eq_iff_iff]; simp_all; omega)
  all_goals
    go_enter Tryz.func72, Tryz.ntmps72
    go_wp2
    all_goals go_ret
    all_goals refine ⟨ret_bool ?_, belowA w _⟩
    all_goals unfold holdsB
    all_goals first | (simp_all; done) | (simp_all; omega) | (rw [Bool.eq_iff_iff]; simp_all; done) | (rw [Bool.eq_iff_iff]; simp_all; omega)
end Go.Proofs.YtiddnjjaidiohaaGreatDoor.L
namespace Go.Proofs.YtiddnjjaidiohaaGreatDoor.L
open Go.RowKit
set_option linter.unusedVariables false
set_option maxHeartbeats 4000000
set_option maxRecDepth 100000
theorem rcond_any (k : Int) (w : World) : Calls Tryz.prog 51 #[.int .i64 k] w fun e w' => e = .returned (.bool (decide (1 ≤ k ∧ k ≤ 10))) ∧ w' = w := by
  go_enter Tryz.func51, Tryz.ntmps51
  go_wp2
  all_goals go_ret
  all_goals refine ⟨ret_bool ?_, rfl⟩
  all_goals first | (simp_all; done) | (simp_all; omega) | (rw [Bool.eq_iff_iff]; simp_all; done) | (rw [Bool.eq_iff_iff]; simp_all; omega)
theorem rterm_any (k : Int) (w : World) : Calls Tryz.prog 90 #[.int .i64 k] w fun e w' => e = .returned (.bool (decide (11 ≤ k ∧ k ≤ 20))) ∧ w' = w := by
  go_enter Tryz.func90, Tryz.ntmps90
  go_wp2
  all_goals go_ret
  all_goals refine ⟨ret_bool ?_, rfl⟩
  all_goals first | (simp_all; done) | (simp_all; omega) | (rw [Bool.eq_iff_iff]; simp_all; done) | (rw [Bool.eq_iff_iff]; simp_all; omega)
theorem toodeep_any (k : Int) (w : World) : Calls Tryz.prog 49 #[.int .i64 k] w fun e w' => e = .returned (.bool (decide (32 < k))) ∧ w' = w := by
  go_enter Tryz.func49, Tryz.ntmps49
  go_wp2
  all_goals go_ret
  all_goals refine ⟨ret_bool ?_, rfl⟩
  all_goals first | (simp_all; done) | (simp_all; omega) | (rw [Bool.eq_iff_iff]; simp_all; done) | (rw [Bool.eq_iff_iff]; simp_all; omega)
def kidsB (k n : Int) : Bool :=
  if k = 3 ∨ k = 8 ∨ k = 9 ∨ k = 19 ∨ k = 20 then decide (n = 1)
  else if k = 4 ∨ k = 5 then decide (2 ≤ n)
  else if k = 6 ∨ k = 7 then decide (n = 2)
  else if k = 13 then decide (n ≤ 64)
  else decide (n = 0)
theorem rkids_any (k n : Int) (w : World) : Calls Tryz.prog 71 #[.int .i64 k, .int .i64 n] w fun e w' => e = .returned (.bool (kidsB k n)) ∧ w' = w := by
  rcases kind_cases k with (rfl | rfl | rfl | rfl | rfl | rfl | rfl | rfl | rfl | rfl | rfl | rfl | rfl | rfl | rfl | rfl | rfl | rfl | rfl | rfl) | h
  case inr =>
    have e1 : (k == 1) = false := by simp; omega
    have e2 : (k == 2) = false := by simp; omega
    have e3 : (k == 3) = false := by simp; omega
    have e4 : (k == 4) = false := by simp; omega
    have e5 : (k == 5) = false := by simp; omega
    have e6 : (k == 6) = false := by simp; omega
    have e7 : (k == 7) = false := by simp; omega
    have e8 : (k == 8) = false := by simp; omega
    have e9 : (k == 9) = false := by simp; omega
    have e10 : (k == 10) = false := by simp; omega
    have e11 : (k == 11) = false := by simp; omega
    have e12 : (k == 12) = false := by simp; omega
    have e13 : (k == 13) = false := by simp; omega
    have e14 : (k == 14) = false := by simp; omega
    have e15 : (k == 15) = false := by simp; omega
    have e16 : (k == 16) = false := by simp; omega
    have e17 : (k == 17) = false := by simp; omega
    have e18 : (k == 18) = false := by simp; omega
    have e19 : (k == 19) = false := by simp; omega
    have e20 : (k == 20) = false := by simp; omega
    have ef : kidsB k n = decide (n = 0) := by unfold kidsB; repeat rw [if_neg (by omega)]
    rw [ef]
    clear ef h
    go_enter Tryz.func71, Tryz.ntmps71
    go_wp2
    all_goals go_ret
    all_goals refine ⟨ret_bool ?_, rfl⟩
    all_goals first | (simp_all; done) | (simp_all; omega) | (rw [Bool.eq_iff_iff]; simp_all; done) | (rw [Bool.eq_iff_iff]; simp_all; omega)
  all_goals
    go_enter Tryz.func71, Tryz.ntmps71
    go_wp2
    all_goals go_ret
    all_goals refine ⟨ret_bool ?_, rfl⟩
    all_goals unfold kidsB
    all_goals first | (simp_all; done) | (simp_all; omega) | (rw [Bool.eq_iff_iff]; simp_all; done) | (rw [Bool.eq_iff_iff]; simp_all; omega)
def brB (k n : Int) : Bool :=
  if k = 3 ∨ k = 4 then decide (n = 4 ∨ n = 5)
  else if k = 5 then decide (n = 5)
  else false
theorem rbr_any (k n : Int) (w : World) : Calls Tryz.prog 52 #[.int .i64 k, .int .i64 n] w fun e w' => e = .returned (.bool (brB k n)) ∧ w' = w := by
  rcases kind_cases k with (rfl | rfl | rfl | rfl | rfl | rfl | rfl | rfl | rfl | rfl | rfl | rfl | rfl | rfl | rfl | rfl | rfl | rfl | rfl | rfl) | h
  case inr =>
    have e1 : (k == 1) = false := by simp; omega
    have e2 : (k == 2) = false := by simp; omega
    have e3 : (k == 3) = false := by simp; omega
    have e4 : (k == 4) = false := by simp; omega
    have e5 : (k == 5) = false := by simp; omega
    have e6 : (k == 6) = false := by simp; omega
    have e7 : (k == 7) = false := by simp; omega
    have e8 : (k == 8) = false := by simp; omega
    have e9 : (k == 9) = false := by simp; omega
    have e10 : (k == 10) = false := by simp; omega
    have e11 : (k == 11) = false := by simp; omega
    have e12 : (k == 12) = false := by simp; omega
    have e13 : (k == 13) = false := by simp; omega
    have e14 : (k == 14) = false := by simp; omega
    have e15 : (k == 15) = false := by simp; omega
    have e16 : (k == 16) = false := by simp; omega
    have e17 : (k == 17) = false := by simp; omega
    have e18 : (k == 18) = false := by simp; omega
    have e19 : (k == 19) = false := by simp; omega
    have e20 : (k == 20) = false := by simp; omega
    have ef : brB k n = false := by unfold brB; repeat rw [if_neg (by omega)]
    rw [ef]
    clear ef h
    go_enter Tryz.func52, Tryz.ntmps52
    go_wp2
    all_goals go_ret
    all_goals refine ⟨ret_bool ?_, rfl⟩
    all_goals first | (simp_all; done) | (simp_all; omega) | (rw [Bool.eq_iff_iff]; simp_all; done) | (rw [Bool.eq_iff_iff]; simp_all; omega)
  all_goals
    go_enter Tryz.func52, Tryz.ntmps52
    go_wp2
    all_goals go_ret
    all_goals refine ⟨ret_bool ?_, rfl⟩
    all_goals unfold brB
    all_goals first | (simp_all; done) | (simp_all; omega) | (rw [Bool.eq_iff_iff]; simp_all; done) | (rw [Bool.eq_iff_iff]; simp_all; omega)

theorem grouped_any (k n : Int) (w : World) : Calls Tryz.prog 89 #[.int .i64 k, .int .i64 n] w fun e w' => e = .returned (.bool (brB k n)) ∧ w' = w := by
  rcases kind_cases k with (rfl | rfl | rfl | rfl | rfl | rfl | rfl | rfl | rfl | rfl | rfl | rfl | rfl | rfl | rfl | rfl | rfl | rfl | rfl | rfl) | h
  case inr =>
    have e1 : (k == 1) = false := by simp; omega
    have e2 : (k == 2) = false := by simp; omega
    have e3 : (k == 3) = false := by simp; omega
    have e4 : (k == 4) = false := by simp; omega
    have e5 : (k == 5) = false := by simp; omega
    have e6 : (k == 6) = false := by simp; omega
    have e7 : (k == 7) = false := by simp; omega
    have e8 : (k == 8) = false := by simp; omega
    have e9 : (k == 9) = false := by simp; omega
    have e10 : (k == 10) = false := by simp; omega
    have e11 : (k == 11) = false := by simp; omega
    have e12 : (k == 12) = false := by simp; omega
    have e13 : (k == 13) = false := by simp; omega
    have e14 : (k == 14) = false := by simp; omega
    have e15 : (k == 15) = false := by simp; omega
    have e16 : (k == 16) = false := by simp; omega
    have e17 : (k == 17) = false := by simp; omega
    have e18 : (k == 18) = false := by simp; omega
    have e19 : (k == 19) = false := by simp; omega
    have e20 : (k == 20) = false := by simp; omega
    have ef : brB k n = false := by unfold brB; repeat rw [if_neg (by omega)]
    rw [ef]
    clear ef h
    go_enter Tryz.func89, Tryz.ntmps89
    go_wp2
    all_goals go_ret
    all_goals refine ⟨ret_bool ?_, rfl⟩
    all_goals first | (simp_all; done) | (simp_all; omega) | (rw [Bool.eq_iff_iff]; simp_all; done) | (rw [Bool.eq_iff_iff]; simp_all; omega)
  all_goals
    go_enter Tryz.func89, Tryz.ntmps89
    go_wp2
    all_goals go_ret
    all_goals refine ⟨ret_bool ?_, rfl⟩
    all_goals unfold brB
    all_goals first | (simp_all; done) | (simp_all; omega) | (rw [Bool.eq_iff_iff]; simp_all; done) | (rw [Bool.eq_iff_iff]; simp_all; omega)
def opB (k : Int) : Bool :=
  if k = 3 ∨ k = 8 ∨ k = 9 ∨ k = 20 ∨ k = 19 then true
  else false
theorem opens_any (k : Int) (w : World) : Calls Tryz.prog 88 #[.int .i64 k] w fun e w' => e = .returned (.bool (opB k)) ∧ w' = w := by
  rcases kind_cases k with (rfl | rfl | rfl | rfl | rfl | rfl | rfl | rfl | rfl | rfl | rfl | rfl | rfl | rfl | rfl | rfl | rfl | rfl | rfl | rfl) | h
  case inr =>
    have e1 : (k == 1) = false := by simp; omega
    have e2 : (k == 2) = false := by simp; omega
    have e3 : (k == 3) = false := by simp; omega
    have e4 : (k == 4) = false := by simp; omega
    have e5 : (k == 5) = false := by simp; omega
    have e6 : (k == 6) = false := by simp; omega
    have e7 : (k == 7) = false := by simp; omega
    have e8 : (k == 8) = false := by simp; omega
    have e9 : (k == 9) = false := by simp; omega
    have e10 : (k == 10) = false := by simp; omega
    have e11 : (k == 11) = false := by simp; omega
    have e12 : (k == 12) = false := by simp; omega
    have e13 : (k == 13) = false := by simp; omega
    have e14 : (k == 14) = false := by simp; omega
    have e15 : (k == 15) = false := by simp; omega
    have e16 : (k == 16) = false := by simp; omega
    have e17 : (k == 17) = false := by simp; omega
    have e18 : (k == 18) = false := by simp; omega
    have e19 : (k == 19) = false := by simp; omega
    have e20 : (k == 20) = false := by simp; omega
    have ef : opB k = false := by unfold opB; repeat rw [if_neg (by omega)]
    rw [ef]
    clear ef h
    go_enter Tryz.func88, Tryz.ntmps88
    go_wp2
    all_goals go_ret
    all_goals refine ⟨ret_bool ?_, rfl⟩
    all_goals first | (simp_all; done) | (simp_all; omega) | (rw [Bool.eq_iff_iff]; simp_all; done) | (rw [Bool.eq_iff_iff]; simp_all; omega)
  all_goals
    go_enter Tryz.func88, Tryz.ntmps88
    go_wp2
    all_goals go_ret
    all_goals refine ⟨ret_bool ?_, rfl⟩
    all_goals unfold opB
    all_goals first | (simp_all; done) | (simp_all; omega) | (rw [Bool.eq_iff_iff]; simp_all; done) | (rw [Bool.eq_iff_iff]; simp_all; omega)
def clsB (k n : Int) : Bool :=
  if k = 6 ∨ k = 7 ∨ k = 19 then decide (11 ≤ n ∧ n ≤ 20)
  else if k = 13 then decide (n = 11 ∨ n = 12)
  else decide (1 ≤ n ∧ n ≤ 10)
theorem rclass_any (k n : Int) (w : World) : Calls Tryz.prog 73 #[.int .i64 k, .int .i64 n] w fun e w' => e = .returned (.bool (clsB k n)) ∧ w' = w := by
  have HT := hid rterm_any
  have HC := hid rcond_any
  rcases kind_cases k with (rfl | rfl | rfl | rfl | rfl | rfl | rfl | rfl | rfl | rfl | rfl | rfl | rfl | rfl | rfl | rfl | rfl | rfl | rfl | rfl) | h
  case inr =>
    have e1 : (k == 1) = false := by simp; omega
    have e2 : (k == 2) = false := by simp; omega
    have e3 : (k == 3) = false := by simp; omega
    have e4 : (k == 4) = false := by simp; omega
    have e5 : (k == 5) = false := by simp; omega
    have e6 : (k == 6) = false := by simp; omega
    have e7 : (k == 7) = false := by simp; omega
    have e8 : (k == 8) = false := by simp; omega
    have e9 : (k == 9) = false := by simp; omega
    have e10 : (k == 10) = false := by simp; omega
    have e11 : (k == 11) = false := by simp; omega
    have e12 : (k == 12) = false := by simp; omega
    have e13 : (k == 13) = false := by simp; omega
    have e14 : (k == 14) = false := by simp; omega
    have e15 : (k == 15) = false := by simp; omega
    have e16 : (k == 16) = false := by simp; omega
    have e17 : (k == 17) = false := by simp; omega
    have e18 : (k == 18) = false := by simp; omega
    have e19 : (k == 19) = false := by simp; omega
    have e20 : (k == 20) = false := by simp; omega
    have ef : clsB k n = decide (1 ≤ n ∧ n ≤ 10) := by unfold clsB; repeat rw [if_neg (by omega)]
    rw [ef]
    clear ef h
    go_enter Tryz.func73, Tryz.ntmps73
    go_wp2_with (first | (go_at_call 90; refine (HT.out _ _).mono ?_; rintro e w1 ⟨rfl, hww⟩; have hw2 := hww.symm; clear hww; subst hw2) | (go_at_call 51; refine (HC.out _ _).mono ?_; rintro e w1 ⟨rfl, hww⟩; have hw2 := hww.symm; clear hww; subst hw2))
    all_goals go_ret
    all_goals refine ⟨ret_bool ?_, rfl⟩
    all_goals first | (simp_all; done) | (simp_all; omega) | (rw [Bool.eq_iff_iff]; simp_all; done) | (rw [Bool.eq_iff_iff]; simp_all; omega)
  all_goals
    go_enter Tryz.func73, Tryz.ntmps73
    go_wp2_with (first | (go_at_call 90; refine (HT.out _ _).mono ?_; rintro e w1 ⟨rfl, hww⟩; have hw2 := hww.symm; clear hww; subst hw2) | (go_at_call 51; refine (HC.out _ _).mono ?_; rintro e w1 ⟨rfl, hww⟩; have hw2 := hww.symm; clear hww; subst hw2))
    all_goals go_ret
    all_goals refine ⟨ret_bool ?_, rfl⟩
    all_goals unfold clsB
    all_goals first | (simp_all; done) | (simp_all; omega) | (rw [Bool.eq_iff_iff]; simp_all; done) | (rw [Bool.eq_iff_iff]; simp_all; omega)
theorem between_any (k n : Int) (w : World) : Calls Tryz.prog 70 #[.int .i64 k, .int .i64 n] w fun e w' => e = .returned (.int .i64 ((if opB k then 1 else 0) + (if brB k n then 1 else 0))) ∧ w' = w := by
  have HO := hid opens_any
  have HG := hid grouped_any
  go_enter Tryz.func70, Tryz.ntmps70
  go_wp2_with (first | (go_at_call 88; refine (HO.out _ _).mono ?_; rintro e w1 ⟨rfl, hww⟩; have hw2 := hww.symm; clear hww; subst hw2) | (go_at_call 89; refine (HG.out _ _ _).mono ?_; rintro e w1 ⟨rfl, hww⟩; have hw2 := hww.symm; clear hww; subst hw2))
  all_goals go_ret
  all_goals simp_all
end Go.Proofs.YtiddnjjaidiohaaGreatDoor.L
