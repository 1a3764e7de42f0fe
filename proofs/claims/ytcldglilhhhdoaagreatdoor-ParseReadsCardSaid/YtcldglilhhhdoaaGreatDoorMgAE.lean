import Derived.Test.YtcldglilhhhdoaaGreatDoorMgAD
import Derived.Lib.AtoiAll
import Derived.Test.YtcldglilhhhdoaaGreatDoorRows
import Derived.Test.YtcldglilhhhdoaaGreatDoorTie
import Derived.Test.YtcldglilhhhdoaaGreatDoorCards
import Derived.ProofKit
import Derived.LaidMore
import Derived.LaidLaws
import Derived.LaidSub
import Derived.OpenShut
import Derived.SizedLaws
import Derived.Deep.DeepHandedRow
import Derived.Deep.Slices
import Derived.Lib.SmallJoins
import Derived.Lib.LaidTab
import Derived.SevenTiedAt
import Derived.Test.YtcldglilhhhdoaaGreatDoorMgAA
import Derived.WalkKit
import Derived.WalkSpells
import Derived.WalkLawsBesides
import Derived.Handy
import Derived.Test.YtcldglilhhhdoaaGreatDoorProg
import Derived.Deep.QuietTactic
import Derived.Deep.RegionHeld3
import Derived.BigQuiet
import Derived.OwnWalk
import Derived.Laws.AppendOwnNone
import Derived.RangeFuncBox
import Derived.Deep.Cut
namespace Go.Proofs.YtcldglilhhhdoaaGreatDoor.L
open Go.RowKit Go.Shelf
set_option linter.unusedVariables false
/-- What the package-level variables on the road hold. -/
structure Vars (w : World) : Prop where
  syn : ∃ tp p, w.var? Tryz.prog "strconv.ErrSyntax" = some #[.iface tp p]
  rng : ∃ tp p, w.var? Tryz.prog "strconv.ErrRange" = some #[.iface tp p]
theorem var_low {w w' : World} {name : String} {x : Array Value} (h : w.var? Tryz.prog name = some x) (hb : Below w.heap.size w w') : w'.var? Tryz.prog name = some x := by
  unfold World.var? at h ⊢
  cases e : Tryz.prog.globalNamed name with
  | none => rw [e] at h; cases h
  | some g =>
    rw [e] at h
    simp only [Option.bind_some] at h ⊢
    have hlt : g < w.heap.size := by
      apply Classical.byContradiction
      intro n
      rw [Array.getElem?_eq_none (by omega)] at h
      cases h
    rw [hb.block g hlt]
    exact h
theorem Vars.low {w w' : World} (h : Vars w) (hb : Below w.heap.size w w') : Vars w' := by
  obtain ⟨⟨t1, p1, b⟩, ⟨t2, p2, c⟩⟩ := h
  exact ⟨⟨t1, p1, var_low b hb⟩, ⟨t2, p2, var_low c hb⟩⟩
theorem atoi_ok (s : ByteArray) (hs : s.size ≤ 4096) (n : Int) (h : Lib.atoiAll s.data.toList = .ok n) (w : World) : Calls Tryz.prog 111 #[.string s] w fun e w' => e = .returned (.tuple #[.int .i64 n, .nilIface]) ∧ Below w.heap.size w w' := by
  refine (show Calls Tryz.prog 111 _ _ _ from Any.strconv_Atoi_ok laysC172 s (by omega) n h w).mono ?_
  rintro e w' ⟨rfl, rfl | ⟨t, rfl⟩⟩
  · exact ⟨rfl, Below.refl _ _⟩
  · exact ⟨rfl, Lib.bytesWorld_below w 5 t⟩
theorem atoi_bad (s : ByteArray) (hs : s.size ≤ 4096) (h : ∀ n, Lib.atoiAll s.data.toList ≠ .ok n) (w : World) (hv : Vars w) : Calls Tryz.prog 111 #[.string s] w fun e w' => ∃ n t N, e = .returned (.tuple #[.int .i64 n, .iface t (.pointer (some ⟨N, 0, none⟩))]) ∧ Below w.heap.size w w' := by
  cases e : Lib.atoiAll s.data.toList with
  | ok n => exact absurd e (h n)
  | «syntax» =>
    obtain ⟨tp, p, hvar⟩ := hv.syn
    refine (show Calls Tryz.prog 111 _ _ _ from Any.strconv_Atoi_syntax_var laysC172 s (by omega) e tp p w hvar).mono ?_
    rintro e w' ⟨N, rfl, _, _, hb⟩
    exact ⟨_, _, N, rfl, hb⟩
  | range =>
    obtain ⟨tp, p, hvar⟩ := hv.rng
    refine (show Calls Tryz.prog 111 _ _ _ from Any.strconv_Atoi_range_var laysC172 s (by omega) e tp p w hvar).mono ?_
    rintro e w' ⟨N, rfl, _, _, hb⟩
    exact ⟨_, _, N, rfl, hb⟩
def allD (l : List UInt8) : Bool := l.all fun c => digB (iv c)
def valF (n : Nat) (l : List UInt8) : Nat := l.foldl (fun n c => n * 10 + (c.toNat - 48)) n
theorem dig_nat (c : UInt8) : digB (iv c) = true ↔ 48 ≤ c.toNat ∧ c.toNat ≤ 57 := by
  unfold digB iv
  simp
  omega
theorem parse_bad : ∀ (l : List UInt8) (acc u : Nat), allD l = false → Lib.parseUint10 acc l ≠ .ok u
  | [], acc, u, h => by simp [allD] at h
  | c :: r, acc, u, h => by
    unfold Lib.parseUint10
    by_cases d : digB (iv c) = true
    · have h' : allD r = false := by simpa [allD, d] using h
      rw [if_pos ((dig_nat c).1 d)]
      split
      · intro e; cases e
      · split
        · intro e; cases e
        · exact parse_bad r _ u h'
    · rw [if_neg (fun x => d ((dig_nat c).2 x))]
      intro e; cases e
theorem parse_good : ∀ (l : List UInt8) (acc : Nat), allD l = true → acc < 10 ^ (18 - l.length) → l.length ≤ 18 → Lib.parseUint10 acc l = .ok (valF acc l) ∧ valF acc l < 10 ^ 18
  | [], acc, h, ha, hl => ⟨rfl, by simpa [valF] using ha⟩
  | c :: r, acc, h, ha, hl => by
    have hd : digB (iv c) = true ∧ allD r = true := by simpa [allD] using h
    have hc := (dig_nat c).1 hd.1
    simp only [List.length_cons] at ha hl
    have hp : 10 ^ (18 - r.length) = 10 * 10 ^ (18 - (r.length + 1)) := by
      rw [show 18 - r.length = (18 - (r.length + 1)) + 1 by omega, Nat.pow_succ, Nat.mul_comm]
    have hb : 10 ^ (18 - (r.length + 1)) ≤ 10 ^ 17 := Nat.pow_le_pow_right (by decide) (by omega)
    have ih := parse_good r (acc * 10 + (c.toNat - 48)) hd.2 (by omega) (by omega)
    unfold Lib.parseUint10
    rw [if_pos hc, if_neg (by omega), if_neg (by omega)]
    exact ih
/-- The digits behind the sign. -/
def dgs (t : ByteArray) : List UInt8 := if bt t 0 = 45 then t.data.toList.drop 1 else t.data.toList
/-- The number that a text writes. -/
def numS (t : ByteArray) : Option Int :=
  if dgs t = [48] then (if bt t 0 = 45 then none else some 0)
  else if 18 < (dgs t).length ∨ (dgs t).head? = some 48 ∨ dgs t = [] ∨ allD (dgs t) = false then none
  else some (if bt t 0 = 45 then -(valF 0 (dgs t) : Int) else valF 0 (dgs t))
theorem bt_cons {t : ByteArray} (h : t.size ≠ 0) : ∃ r, t.data.toList = bt t 0 :: r := by
  have := drop_bt t 0 (by omega)
  exact ⟨_, by simpa using this⟩
theorem atoi_num (t : ByteArray) (h0 : t.size ≠ 0) (h43 : bt t 0 ≠ 43) (h1 : dgs t ≠ []) (h2 : (dgs t).length ≤ 18) :
    (allD (dgs t) = true → Lib.atoiAll t.data.toList = .ok (if bt t 0 = 45 then -(valF 0 (dgs t) : Int) else valF 0 (dgs t))) ∧ (allD (dgs t) = false → ∀ n, Lib.atoiAll t.data.toList ≠ .ok n) := by
  obtain ⟨r, hr⟩ := bt_cons h0
  have n43 : (bt t 0).toNat ≠ 43 := fun e => h43 (UInt8.toNat_inj.1 e)
  have hm : Lib.atoiAll t.data.toList = match Lib.parseMag (dgs t) with
      | .syntax => .syntax
      | .range => .range
      | .ok u => if ¬ (bt t 0).toNat = 45 ∧ 9223372036854775808 ≤ u then .range else if (bt t 0).toNat = 45 ∧ 9223372036854775808 < u then .range else .ok (if (bt t 0).toNat = 45 then -(u : Int) else u) := by
    unfold dgs
    rw [hr]
    unfold Lib.atoiAll
    by_cases c : bt t 0 = 45
    · have c' : (bt t 0).toNat = 45 := by rw [c]; rfl
      simp only [c, if_true, List.drop_succ_cons, List.drop_zero]
      rfl
    · have c' : (bt t 0).toNat ≠ 45 := fun e => c (UInt8.toNat_inj.1 e)
      simp only [c, c', n43, if_false, or_false]
      cases Lib.parseMag (bt t 0 :: r) <;> rfl
  have hp : Lib.parseMag (dgs t) = Lib.parseUint10 0 (dgs t) := by unfold Lib.parseMag; rw [if_neg h1]
  rw [hp] at hm
  refine ⟨fun ha => ?_, fun ha n => ?_⟩
  · obtain ⟨e1, e2⟩ := parse_good (dgs t) 0 ha (Nat.pow_pos (by decide)) h2
    rw [e1] at hm
    rw [hm]
    simp only
    rw [if_neg (by omega), if_neg (by omega)]
    by_cases c : bt t 0 = 45
    · have c' : (bt t 0).toNat = 45 := by rw [c]; rfl
      rw [if_pos c', if_pos c]
    · have c' : (bt t 0).toNat ≠ 45 := fun e => c (UInt8.toNat_inj.1 e)
      rw [if_neg c', if_neg c]
  · rw [hm]
    cases hx : Lib.parseUint10 0 (dgs t) with
    | ok u => exact absurd hx (parse_bad _ _ _ ha)
    | «syntax» => intro e; cases e
    | range => intro e; cases e
theorem one_list (t : ByteArray) (h : 1 ≤ t.size) : (t.extract 0 1).toList = [bt t 0] := by
  rw [ByteArray.toList_eq, ByteArray.data_extract]
  have h1 := drop_bt t 0 (by omega)
  simp at h1 ⊢
  rw [h1]
  rfl
set_option maxHeartbeats 2000000 in
theorem hasp_any (t : ByteArray) (c : UInt8) (w : World) (hs : t.size ≤ 4096) (hc : c ≠ 0) : Calls Tryz.prog 119 #[.string t, .string ⟨#[c]⟩] w fun e w' => e = .returned (.bool (bt t 0 == c)) ∧ w' = w := by
  have hc1 : (⟨#[c]⟩ : ByteArray).size = 1 := rfl
  have hc2 : (⟨#[c]⟩ : ByteArray).toList = [c] := by rw [ByteArray.toList_eq]
  by_cases h : 1 ≤ t.size
  · have ht := one_list t h
    have h' : (1 : Int) ≤ t.size := by omega
    cases hb : (bt t 0 == c)
    · have n1 : ([bt t 0] == [c]) = false := by simpa using hb
      generalize bt t 0 = b at *
      go_enter Tryz.func119, Tryz.ntmps119
      go_wp2
      go_ret
      exact ⟨rfl, rfl⟩
    · have n1 : ([bt t 0] == [c]) = true := by simpa using hb
      generalize bt t 0 = b at *
      go_enter Tryz.func119, Tryz.ntmps119
      go_wp2
      go_ret
      exact ⟨rfl, rfl⟩
  · have h' : ¬ (1 : Int) ≤ t.size := by omega
    have hb : (bt t 0 == c) = false := by
      rw [bt_out t 0 (by omega)]
      simpa using fun e : (0 : UInt8) = c => hc e.symm
    rw [hb]
    go_enter Tryz.func119, Tryz.ntmps119
    go_wp2
    go_ret
    exact ⟨rfl, rfl⟩
set_option maxHeartbeats 2000000 in
theorem shasp_any (t : ByteArray) (c : UInt8) (w : World) (hs : t.size ≤ 4096) (hc : c ≠ 0) : Calls Tryz.prog 110 #[.string t, .string ⟨#[c]⟩] w fun e w' => e = .returned (.bool (bt t 0 == c)) ∧ w' = w := by
  have HI := hid (fun W => hasp_any t c W hs hc)
  generalize (bt t 0 == c) = b at *
  go_enter Tryz.func110, Tryz.ntmps110
  go_wp2_with (go_at_call 119; refine (HI.out _).mono ?_; rintro e w1 ⟨rfl, hww⟩; subst hww)
  go_ret
  exact ⟨rfl, rfl⟩
/-- What stands behind the sign, as a text. -/
def dgT (t : ByteArray) : ByteArray := if bt t 0 = 45 then t.extract 1 t.size else t
theorem dgT_list (t : ByteArray) : (dgT t).data.toList = dgs t := by
  unfold dgT dgs
  split
  · rw [ByteArray.data_extract]
    simp
    rw [List.take_of_length_le (by simp)]
  · rfl
theorem dgT_size (t : ByteArray) : (dgT t).size ≤ t.size := by
  unfold dgT
  split
  · simp
  · exact Nat.le_refl _
set_option maxHeartbeats 2000000 in
theorem cutp_any (t : ByteArray) (w : World) (hs : t.size ≤ 4096) : Calls Tryz.prog 118 #[.string t, .string ⟨#[45]⟩] w fun e w' => e = .returned (.tuple #[.string (dgT t), .bool (bt t 0 == 45)]) ∧ w' = w := by
  have HI := hid (fun W => hasp_any t 45 W hs (by decide))
  unfold dgT
  by_cases c : bt t 0 = 45
  · have h1 : 1 ≤ t.size := bt_nz (by rw [c]; decide)
    have h1' : (1 : Int) ≤ t.size := by omega
    rw [if_pos c]
    rw [show (bt t 0 == 45) = true by simpa using c] at HI ⊢
    go_enter Tryz.func118, Tryz.ntmps118
    go_wp2_with (go_at_call 119; refine (HI.out _).mono ?_; rintro e w1 ⟨rfl, hww⟩; subst hww)
    go_ret2
    exact ⟨rfl, rfl⟩
  · rw [if_neg c]
    rw [show (bt t 0 == 45) = false by simpa using c] at HI ⊢
    go_enter Tryz.func118, Tryz.ntmps118
    go_wp2_with (go_at_call 119; refine (HI.out _).mono ?_; rintro e w1 ⟨rfl, hww⟩; subst hww)
    go_ret2
    exact ⟨rfl, rfl⟩
set_option maxHeartbeats 2000000 in
theorem scutp_any (t : ByteArray) (w : World) (hs : t.size ≤ 4096) : Calls Tryz.prog 109 #[.string t, .string ⟨#[45]⟩] w fun e w' => e = .returned (.tuple #[.string (dgT t), .bool (bt t 0 == 45)]) ∧ w' = w := by
  have HI := hid (fun W => cutp_any t W hs)
  generalize (bt t 0 == 45) = b at *
  generalize dgT t = d at *
  go_enter Tryz.func109, Tryz.ntmps109
  go_wp2_with (go_at_call 118; refine (HI.out _).mono ?_; rintro e w1 ⟨rfl, hww⟩; subst hww)
  go_ret2
  exact ⟨rfl, rfl⟩
/-- What number answers. -/
def NumIs (r : Option Int) (w : World) (e : Ending) (w' : World) : Prop :=
  match r with
  | some n => e = .returned (.tuple #[.int .i64 n, .bool true]) ∧ Below w.heap.size w w'
  | none => ∃ n, e = .returned (.tuple #[.int .i64 n, .bool false]) ∧ Below w.heap.size w w'
end Go.Proofs.YtcldglilhhhdoaaGreatDoor.L
namespace Go.Proofs.YtcldglilhhhdoaaGreatDoor.L
open Go.ChangeShapes Go.WideShapes Go.ChangeAt Go.RowKit Go.Joins
set_option linter.unusedVariables false
theorem own : ownKnob Tryz.prog.godebug = none := by kernel_rfl
theorem reach_num : reachBytes = 140737488351232 := by kernel_rfl
theorem wf_i64 {a : Int} (h : (Lit.int .i64 a).wf = true) : -9223372036854775808 ≤ a ∧ a ≤ 9223372036854775807 := by
  simp [Lit.wf] at h
  exact h
theorem iface_laid {W : World} {name nm : String} {d : DataW Unit} {rest : List (String × DataW Unit)} {g : Nat} {t : TypeId} {ms : Array (String × TypeId)} (hg : Tryz.prog.globalNamed name = some g) (hty : (Tryz.prog.globals[g]?).map (·.type) = some t) (ht : Tryz.prog.underlying t = some (.interface ms))
    (h : laidMet Tryz.prog ((name, .iface nm d) :: rest) W) : ∃ tp p, W.var? Tryz.prog name = some #[.iface tp p] := by
  obtain ⟨ps, ⟨g', t', cs, fuel, p, q, hg', ht', hvar, hd, _, _⟩, _⟩ := h
  obtain rfl := Option.some.inj (hg.symm.trans hg')
  obtain rfl := Option.some.inj (hty.symm.trans ht')
  obtain ⟨f', u, v, e, _, _⟩ := iface_of_trod ht hd
  refine ⟨u, v, ?_⟩
  rw [hvar, Array.eq_one_of_toList e]
theorem vars_laid {W : World} {laid : List (String × DataW Unit)} (h : laidMetH Tryz.prog laid W)
    (e1 : (laid.filter fun x => x.1 == "strconv.ErrSyntax") = [("strconv.ErrSyntax", Rows.laid_strconv_ErrSyntax)]) (e2 : (laid.filter fun x => x.1 == "strconv.ErrRange") = [("strconv.ErrRange", Rows.laid_strconv_ErrRange)]) : Vars W := by
  have k2 : laidMet Tryz.prog [("strconv.ErrSyntax", Rows.laid_strconv_ErrSyntax)] W := by have := h.filter (fun x => x.1 == "strconv.ErrSyntax"); rw [e1] at this; exact this
  have k3 : laidMet Tryz.prog [("strconv.ErrRange", Rows.laid_strconv_ErrRange)] W := by have := h.filter (fun x => x.1 == "strconv.ErrRange"); rw [e2] at this; exact this
  exact ⟨iface_laid (g := 1) (by kernel_rfl) (by kernel_rfl) Tryz.underlying28 k2, iface_laid (g := 2) (by kernel_rfl) (by kernel_rfl) Tryz.underlying28 k3⟩
end Go.Proofs.YtcldglilhhhdoaaGreatDoor.L
namespace Go.Proofs.YtcldglilhhhdoaaGreatDoor.L
open Go.RowKit
set_option linter.unusedVariables false
theorem lt_blk {W : World} {k : Nat} {o : Obj} (h : W.heap[k]? = some o) : k < W.heap.size := (Array.getElem?_eq_some_iff.1 h).1
/-- What a kind's parts hold. -/
structure Fm where
  cl : Int
  kd : Int
  ls : Int
  ms : Int
  tx : Bool
  lo : Int
  hi : Int
def fmv (f : Fm) : Value := .agg #[.int .i64 f.cl, .int .i64 f.kd, .int .i64 f.ls, .int .i64 f.ms, .bool f.tx, .int .i64 f.lo, .int .i64 f.hi]
def fmO (k : Int) : Fm :=
  if k = 1 ∨ k = 2 then ⟨1, 0, 0, 0, false, 0, 0⟩
  else if k = 3 then ⟨1, 1, 1, 1, false, 0, 0⟩
  else if k = 4 ∨ k = 5 then ⟨1, 1, 2, 1000, false, 0, 0⟩
  else if k = 6 then ⟨1, 2, 2, 2, false, 1, 6⟩
  else if k = 7 then ⟨1, 2, 2, 2, false, 0, 1⟩
  else if k = 8 ∨ k = 9 then ⟨1, 1, 1, 1, true, 0, 0⟩
  else if k = 10 then ⟨1, 0, 0, 0, true, 0, 0⟩
  else if k = 11 then ⟨3, 0, 0, 0, true, 0, 0⟩
  else if k = 12 then ⟨3, 0, 0, 0, false, -999999999999999999, 999999999999999999⟩
  else if k = 13 then ⟨2, 3, 0, 64, false, 0, 0⟩
  else if k = 14 ∨ k = 18 then ⟨2, 0, 0, 0, true, 1, 3⟩
  else if k = 15 ∨ k = 16 ∨ k = 17 then ⟨2, 0, 0, 0, false, 1, 3⟩
  else if k = 19 then ⟨2, 2, 1, 1, false, 0, 0⟩
  else if k = 20 then ⟨2, 1, 1, 1, true, 0, 0⟩
  else ⟨0, 0, 0, 0, false, 0, 0⟩
theorem kind_cases (k : Int) : (k = 1 ∨ k = 2 ∨ k = 3 ∨ k = 4 ∨ k = 5 ∨ k = 6 ∨ k = 7 ∨ k = 8 ∨ k = 9 ∨ k = 10 ∨ k = 11 ∨ k = 12 ∨ k = 13 ∨ k = 14 ∨ k = 15 ∨ k = 16 ∨ k = 17 ∨ k = 18 ∨ k = 19 ∨ k = 20) ∨ (k < 1 ∨ 20 < k) := by omega
end Go.Proofs.YtcldglilhhhdoaaGreatDoor.L
namespace Go.Proofs.YtcldglilhhhdoaaGreatDoor.L
open Go.RowKit
set_option linter.unusedVariables false
set_option maxHeartbeats 4000000
set_option maxRecDepth 100000
def fitsB (f : Fm) (tx : ByteArray) (nu n : Int) : Bool := decide (f.cl ≠ 0 ∧ (tx.toList = [] ∨ f.tx = true) ∧ (tx.size : Int) ≤ 127 ∧ f.lo ≤ nu ∧ nu ≤ f.hi ∧ f.ls ≤ n ∧ n ≤ f.ms)
def takesB (f : Fm) (c : Int) : Bool := decide (c = f.kd ∨ (c = 3 ∧ f.kd = 2))
def holdsB (k : Int) (tx : ByteArray) (nu : Int) : Bool :=
  if k = 8 ∨ k = 9 ∨ k = 10 ∨ k = 11 ∨ k = 20 then decide ((tx.size : Int) ≤ 127 ∧ nu = 0)
  else if k = 6 then decide (tx.toList = [] ∧ 1 ≤ nu ∧ nu ≤ 6)
  else if k = 7 then decide (tx.toList = [] ∧ (nu = 0 ∨ nu = 1))
  else if k = 12 then decide (tx.toList = [] ∧ -999999999999999999 ≤ nu ∧ nu ≤ 999999999999999999)
  else if k = 14 ∨ k = 18 then decide ((tx.size : Int) ≤ 127 ∧ 1 ≤ nu ∧ nu ≤ 3)
  else if k = 15 ∨ k = 16 ∨ k = 17 then decide (tx.toList = [] ∧ 1 ≤ nu ∧ nu ≤ 3)
  else decide (tx.toList = [] ∧ nu = 0)
end Go.Proofs.YtcldglilhhhdoaaGreatDoor.L
namespace Go.Proofs.YtcldglilhhhdoaaGreatDoor.L
open Go.RowKit
set_option linter.unusedVariables false
set_option maxHeartbeats 4000000
set_option maxRecDepth 100000
def kidsB (k n : Int) : Bool :=
  if k = 3 ∨ k = 8 ∨ k = 9 ∨ k = 19 ∨ k = 20 then decide (n = 1)
  else if k = 4 ∨ k = 5 then decide (2 ≤ n)
  else if k = 6 ∨ k = 7 then decide (n = 2)
  else if k = 13 then decide (n ≤ 64)
  else decide (n = 0)
def brB (k n : Int) : Bool :=
  if k = 3 ∨ k = 4 then decide (n = 4 ∨ n = 5)
  else if k = 5 then decide (n = 5)
  else false
def opB (k : Int) : Bool :=
  if k = 3 ∨ k = 8 ∨ k = 9 ∨ k = 20 ∨ k = 19 then true
  else false
def clsB (k n : Int) : Bool :=
  if k = 6 ∨ k = 7 ∨ k = 19 then decide (11 ≤ n ∧ n ≤ 20)
  else if k = 13 then decide (n = 11 ∨ n = 12)
  else decide (1 ≤ n ∧ n ≤ 10)
end Go.Proofs.YtcldglilhhhdoaaGreatDoor.L
namespace Go.Proofs.YtcldglilhhhdoaaGreatDoor.L
open Go.RowKit
set_option linter.unusedVariables false
/-- A part of a tree. -/
structure Pt where
  kind : Int
  text : ByteArray
  num : Int
  kids : List Int
def pt (T : List Pt) (j : Nat) : Pt := T.getD j ⟨0, ⟨#[]⟩, 0, []⟩
/-- What stands ahead of place i and is nobody's kid yet. -/
def fre (T : List Pt) : Nat → List Int
  | 0 => []
  | i + 1 => (fre T i).take ((fre T i).length - (pt T i).kids.length) ++ [(i : Int)]
/-- The part holds what the table says, its kids' classes too. -/
def tabD (T : List Pt) (p : Pt) : Prop := kidsB p.kind p.kids.length = true ∧ 1 ≤ p.kind ∧ p.kind ≤ 20 ∧ holdsB p.kind p.text p.num = true ∧ ∀ x, x ∈ p.kids → clsB p.kind (pt T x.toNat).kind = true
def tabP (T : List Pt) (p : Pt) : Prop := fitsB (fmO p.kind) p.text p.num p.kids.length = true ∧ ∀ x, x ∈ p.kids → takesB (fmO p.kind) (fmO (pt T x.toNat).kind).cl = true
theorem cl_one (k : Int) : (fmO k).cl = 1 ↔ 1 ≤ k ∧ k ≤ 10 := by
  rcases kind_cases k with (rfl | rfl | rfl | rfl | rfl | rfl | rfl | rfl | rfl | rfl | rfl | rfl | rfl | rfl | rfl | rfl | rfl | rfl | rfl | rfl) | h
  case inr =>
    have ef : fmO k = ⟨0, 0, 0, 0, false, 0, 0⟩ := by unfold fmO; repeat rw [if_neg (by omega)]
    rw [ef]
    simp
    omega
  all_goals decide
theorem cl_two (k : Int) : ((fmO k).cl = 2 ∨ (fmO k).cl = 3) ↔ 11 ≤ k ∧ k ≤ 20 := by
  rcases kind_cases k with (rfl | rfl | rfl | rfl | rfl | rfl | rfl | rfl | rfl | rfl | rfl | rfl | rfl | rfl | rfl | rfl | rfl | rfl | rfl | rfl) | h
  case inr =>
    have ef : fmO k = ⟨0, 0, 0, 0, false, 0, 0⟩ := by unfold fmO; repeat rw [if_neg (by omega)]
    rw [ef]
    simp
    omega
  all_goals decide
theorem cl_three (k : Int) : (fmO k).cl = 3 ↔ k = 11 ∨ k = 12 := by
  rcases kind_cases k with (rfl | rfl | rfl | rfl | rfl | rfl | rfl | rfl | rfl | rfl | rfl | rfl | rfl | rfl | rfl | rfl | rfl | rfl | rfl | rfl) | h
  case inr =>
    have ef : fmO k = ⟨0, 0, 0, 0, false, 0, 0⟩ := by unfold fmO; repeat rw [if_neg (by omega)]
    rw [ef]
    simp
    omega
  all_goals decide
theorem size_nil {s : ByteArray} (h : s.toList = []) : s.size = 0 := by
  have : s.data.toList = [] := by rw [← ByteArray.toList_eq]; exact h
  have h2 : s.size = s.data.toList.length := by simp
  rw [h2, this]
  rfl
theorem takes_cls (k kk : Int) (h : k = 3 ∨ k = 4 ∨ k = 5 ∨ k = 6 ∨ k = 7 ∨ k = 8 ∨ k = 9 ∨ k = 13 ∨ k = 19 ∨ k = 20) : takesB (fmO k) (fmO kk).cl = clsB k kk := by
  have c1 := cl_one kk
  have c2 := cl_two kk
  have c3 := cl_three kk
  generalize (fmO kk).cl = c at *
  rw [Bool.eq_iff_iff]
  rcases h with rfl | rfl | rfl | rfl | rfl | rfl | rfl | rfl | rfl | rfl <;> simp [takesB, clsB, fmO] <;> omega
theorem fits_tab (k : Int) (tx : ByteArray) (nu : Int) (n : Nat) (hn : n ≤ 1000) : fitsB (fmO k) tx nu n = true ↔ kidsB k n = true ∧ 1 ≤ k ∧ k ≤ 20 ∧ holdsB k tx nu = true := by
  have z : tx.toList = [] → (tx.size : Int) = 0 := fun h => by rw [size_nil h]; rfl
  rcases kind_cases k with (rfl | rfl | rfl | rfl | rfl | rfl | rfl | rfl | rfl | rfl | rfl | rfl | rfl | rfl | rfl | rfl | rfl | rfl | rfl | rfl) | h
  case inr =>
    have ef : fmO k = ⟨0, 0, 0, 0, false, 0, 0⟩ := by unfold fmO; repeat rw [if_neg (by omega)]
    rw [ef]
    simp [fitsB]
    omega
  all_goals
    by_cases e : tx.toList = []
    · have := z e
      simp [fitsB, fmO, kidsB, holdsB, e, this]
      try omega
    · simp [fitsB, fmO, kidsB, holdsB, e]
      try omega
theorem tab_iff (T : List Pt) (p : Pt) (hn : p.kids.length ≤ 1000) : tabP T p ↔ tabD T p := by
  obtain ⟨k, tx, nu, ks⟩ := p
  unfold tabP tabD
  simp only at hn ⊢
  have hf := fits_tab k tx nu ks.length hn
  constructor
  · rintro ⟨h1, h2⟩
    obtain ⟨a, b, c, d⟩ := hf.1 h1
    refine ⟨a, b, c, d, fun x hx => ?_⟩
    have hk : k = 3 ∨ k = 4 ∨ k = 5 ∨ k = 6 ∨ k = 7 ∨ k = 8 ∨ k = 9 ∨ k = 13 ∨ k = 19 ∨ k = 20 := by
      apply Classical.byContradiction
      intro hc
      unfold kidsB at a
      rw [if_neg (by omega), if_neg (by omega), if_neg (by omega), if_neg (by omega)] at a
      simp at a
      rw [a] at hx
      cases hx
    rw [← takes_cls k _ hk]
    exact h2 x hx
  · rintro ⟨a, b, c, d, h2⟩
    refine ⟨hf.2 ⟨a, b, c, d⟩, fun x hx => ?_⟩
    have hk : k = 3 ∨ k = 4 ∨ k = 5 ∨ k = 6 ∨ k = 7 ∨ k = 8 ∨ k = 9 ∨ k = 13 ∨ k = 19 ∨ k = 20 := by
      apply Classical.byContradiction
      intro hc
      unfold kidsB at a
      rw [if_neg (by omega), if_neg (by omega), if_neg (by omega), if_neg (by omega)] at a
      simp at a
      rw [a] at hx
      cases hx
    rw [takes_cls k _ hk]
    exact h2 x hx
/-- The part at i is right where it stands. -/
structure OkA (T : List Pt) (i : Nat) : Prop where
  many : (pt T i).kids.length ≤ (fre T i).length
  kids : (pt T i).kids = (fre T i).drop ((fre T i).length - (pt T i).kids.length)
  tab : tabD T (pt T i)
theorem fre_len (T : List Pt) : ∀ i, (fre T i).length ≤ i
  | 0 => by simp [fre]
  | i + 1 => by
    have := fre_len T i
    simp [fre]
    omega
theorem fre_mem (T : List Pt) : ∀ i x, x ∈ fre T i → 0 ≤ x ∧ x < i
  | 0, x, h => by simp [fre] at h
  | i + 1, x, h => by
    unfold fre at h
    rcases List.mem_append.1 h with h | h
    · have := fre_mem T i x (List.mem_of_mem_take h)
      omega
    · simp at h
      omega
theorem OkA.lt {T : List Pt} {i : Nat} (h : OkA T i) {x : Int} (hx : x ∈ (pt T i).kids) : 0 ≤ x ∧ x < i := by
  rw [h.kids] at hx
  exact fre_mem T i x (List.mem_of_mem_drop hx)
/-- The first part that bars the tree; none does; the last one is no condition, or one is left. -/
def Bar (T : List Pt) (i : Nat) : Prop := i < T.length ∧ ¬ OkA T i ∧ ∀ j, j < i → OkA T j
def Ok0 (T : List Pt) : Prop := ∀ j, j < T.length → OkA T j
def Lst (T : List Pt) : Prop := ¬ (1 ≤ (pt T (T.length - 1)).kind ∧ (pt T (T.length - 1)).kind ≤ 10) ∨ 1 < (fre T T.length).length
/-- How much more stands round a kid. -/
def btw (k n : Int) : Int := (if opB k then 1 else 0) + (if brB k n then 1 else 0)
theorem btw_le (k n : Int) : 0 ≤ btw k n ∧ btw k n ≤ 2 := by unfold btw; split <;> split <;> omega
def inn (T : List Pt) (i : Nat) (ks n : List Int) : List Int := ks.foldl (fun n x => n.set x.toNat (n.getD i 0 + btw (pt T i).kind (pt T x.toNat).kind)) n
def nsts (T : List Pt) : Nat → List Int → List Int
  | 0, n => n
  | i + 1, n => nsts T i (inn T i (pt T i).kids n)
def nests (T : List Pt) : List Int := nsts T T.length (List.replicate T.length 0)
theorem inn_len (T : List Pt) (i : Nat) : ∀ (ks n : List Int), (inn T i ks n).length = n.length
  | [], n => rfl
  | x :: ks, n => by
    show (inn T i ks _).length = _
    rw [inn_len T i ks]
    simp
theorem nsts_len (T : List Pt) : ∀ (i : Nat) (n : List Int), (nsts T i n).length = n.length
  | 0, n => rfl
  | i + 1, n => by rw [nsts, nsts_len T i, inn_len]
theorem nests_len (T : List Pt) : (nests T).length = T.length := by unfold nests; rw [nsts_len]; simp
/-- No nest is greater than twice what lies behind its place. -/
def Sm (L : Nat) (n : List Int) : Prop := ∀ j, j < n.length → 0 ≤ n.getD j 0 ∧ n.getD j 0 ≤ 2 * ((L : Int) - 1 - j)
theorem Sm.set {L : Nat} {n : List Int} {i x : Nat} {v : Int} (h : Sm L n) (hi : i < n.length) (hx : x < i) (hv : 0 ≤ v ∧ v ≤ n.getD i 0 + 2) : Sm L (n.set x v) := by
  intro j hj
  rw [List.length_set] at hj
  have hi' := h i hi
  by_cases e : j = x
  · subst e
    have : (n.set j v).getD j 0 = v := by rw [List.getD_eq_getElem?_getD, List.getElem?_set_self hj]; rfl
    rw [this]
    omega
  · have : (n.set x v).getD j 0 = n.getD j 0 := by rw [List.getD_eq_getElem?_getD, List.getD_eq_getElem?_getD, List.getElem?_set_ne (by omega)]
    rw [this]
    exact h j hj
def Deep (T : List Pt) (i : Nat) : Prop := i < T.length ∧ 32 < (nests T).getD i 0 ∧ ∀ j, j < i → (nests T).getD j 0 ≤ 32
def NoDeep (T : List Pt) : Prop := ∀ j, j < T.length → (nests T).getD j 0 ≤ 32
/-- What Valid answers: a code (0: nothing bars) and a place. -/
def Res (T : List Pt) (c a : Nat) : Prop :=
  (T.length = 0 ∧ c = 130 ∧ a = 0) ∨ (1000 < T.length ∧ c = 130 ∧ a = 1000) ∨
  (1 ≤ T.length ∧ T.length ≤ 1000 ∧ ((Bar T a ∧ c = 130) ∨ (Ok0 T ∧ Lst T ∧ c = 130 ∧ a = T.length - 1) ∨
    (Ok0 T ∧ ¬ Lst T ∧ ((Deep T a ∧ c = 122) ∨ (NoDeep T ∧ c = 0 ∧ a = 0)))))
theorem Bar.one {T : List Pt} {i j : Nat} (h : Bar T i) (k : Bar T j) : i = j := by
  rcases Nat.lt_trichotomy i j with h1 | h1 | h1
  · exact absurd (k.2.2 i h1) h.2.1
  · exact h1
  · exact absurd (h.2.2 j h1) k.2.1
theorem Bar.no {T : List Pt} {i : Nat} (h : Bar T i) (k : Ok0 T) : False := h.2.1 (k i h.1)
theorem Deep.one {T : List Pt} {i j : Nat} (h : Deep T i) (k : Deep T j) : i = j := by
  rcases Nat.lt_trichotomy i j with h1 | h1 | h1
  · have := k.2.2 i h1; have := h.2.1; omega
  · exact h1
  · have := h.2.2 j h1; have := k.2.1; omega
theorem Deep.no {T : List Pt} {i : Nat} (h : Deep T i) (k : NoDeep T) : False := by have := h.2.1; have := k i h.1; omega
theorem res_one {T : List Pt} {c a c' a' : Nat} (h : Res T c a) (k : Res T c' a') : c = c' ∧ a = a' := by
  rcases h with ⟨h0, rfl, rfl⟩ | ⟨h0, rfl, rfl⟩ | ⟨h0, h1, h⟩
  · rcases k with ⟨_, rfl, rfl⟩ | ⟨k0, _⟩ | ⟨k0, _⟩
    · exact ⟨rfl, rfl⟩
    · omega
    · omega
  · rcases k with ⟨k0, _⟩ | ⟨_, rfl, rfl⟩ | ⟨_, k0, _⟩
    · omega
    · exact ⟨rfl, rfl⟩
    · omega
  · rcases k with ⟨k0, _⟩ | ⟨k0, _⟩ | ⟨_, _, k⟩
    · omega
    · omega
    · rcases h with ⟨hb, rfl⟩ | ⟨ho, hl, rfl, rfl⟩ | ⟨ho, hl, h⟩
      · rcases k with ⟨kb, rfl⟩ | ⟨ko, _⟩ | ⟨ko, _⟩
        · exact ⟨rfl, hb.one kb⟩
        · exact (hb.no ko).elim
        · exact (hb.no ko).elim
      · rcases k with ⟨kb, rfl⟩ | ⟨ko, kl, rfl, rfl⟩ | ⟨ko, kl, _⟩
        · exact (kb.no ho).elim
        · exact ⟨rfl, rfl⟩
        · exact absurd hl kl
      · rcases k with ⟨kb, rfl⟩ | ⟨ko, kl, rfl, rfl⟩ | ⟨ko, kl, k⟩
        · exact (kb.no ho).elim
        · exact absurd kl hl
        · rcases h with ⟨hd, rfl⟩ | ⟨hd, rfl, rfl⟩
          · rcases k with ⟨kd, rfl⟩ | ⟨kd, rfl, rfl⟩
            · exact ⟨rfl, hd.one kd⟩
            · exact (hd.no kd).elim
          · rcases k with ⟨kd, rfl⟩ | ⟨kd, rfl, rfl⟩
            · exact (kd.no hd).elim
            · exact ⟨rfl, rfl⟩
end Go.Proofs.YtcldglilhhhdoaaGreatDoor.L
