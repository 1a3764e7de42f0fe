import Derived.Test.YtcldglilhhhdoaaGreatDoorPcA
import Derived.Laws.StructEq
namespace Go.Proofs.YtcldglilhhhdoaaGreatDoor.L
open Go.RowKit Go.Shelf
set_option linter.unusedVariables false
set_option linter.unusedSimpArgs false
set_option maxRecDepth 100000 in
theorem eq_causes (w : World) : (Op.equalIn 9999 33 (.agg #[.int .i64 0, .int .i64 0, .int .i64 0, .string ⟨#[]⟩, .int .i64 0, .int .i64 0, .int .i64 0, .string ⟨#[]⟩, .int .i64 0, .int .i64 0, .int .i64 0, .string ⟨#[]⟩, .int .i64 0, .int .i64 0, .int .i64 0, .string ⟨#[]⟩]) (.agg #[.int .i64 0, .int .i64 0, .int .i64 0, .string ⟨#[]⟩, .int .i64 0, .int .i64 0, .int .i64 0, .string ⟨#[]⟩, .int .i64 0, .int .i64 0, .int .i64 0, .string ⟨#[]⟩, .int .i64 0, .int .i64 0, .int .i64 0, .string ⟨#[]⟩])).run Tryz.prog w = .ok true w := by
  kernel_rfl
theorem flds : (Tryz.prog.fieldsOf 35).toList = [{ name := "Code", type := 3, offset := 0, embedded := false, tag := "", pkgPath := "", byteOffset := 0 }, { name := "At", type := 3, offset := 1, embedded := false, tag := "", pkgPath := "", byteOffset := 8 }, { name := "Name", type := 9, offset := 2, embedded := false, tag := "", pkgPath := "", byteOffset := 16 }, { name := "Causes", type := 33, offset := 3, embedded := false, tag := "", pkgPath := "", byteOffset := 32 }] := by
  kernel_rfl
theorem str53 : Tryz.prog.underlying 35 = some (.struct (Tryz.prog.fieldsOf 35)) := by kernel_rfl
theorem held53 : Tryz.prog.stoodInHeld 35 = false := by kernel_rfl
theorem p0 (c a : Int) (w : World) : (part 3 #[.int .i64 c, .int .i64 a, .string ⟨#[]⟩, .int .i64 0, .int .i64 0, .int .i64 0, .string ⟨#[]⟩, .int .i64 0, .int .i64 0, .int .i64 0, .string ⟨#[]⟩, .int .i64 0, .int .i64 0, .int .i64 0, .string ⟨#[]⟩, .int .i64 0, .int .i64 0, .int .i64 0, .string ⟨#[]⟩] 0).run Tryz.prog w = .ok (.int .i64 c) w := by kernel_rfl
theorem p1 (c a : Int) (w : World) : (part 3 #[.int .i64 c, .int .i64 a, .string ⟨#[]⟩, .int .i64 0, .int .i64 0, .int .i64 0, .string ⟨#[]⟩, .int .i64 0, .int .i64 0, .int .i64 0, .string ⟨#[]⟩, .int .i64 0, .int .i64 0, .int .i64 0, .string ⟨#[]⟩, .int .i64 0, .int .i64 0, .int .i64 0, .string ⟨#[]⟩] 1).run Tryz.prog w = .ok (.int .i64 a) w := by kernel_rfl
theorem p2 (c a : Int) (w : World) : (part 9 #[.int .i64 c, .int .i64 a, .string ⟨#[]⟩, .int .i64 0, .int .i64 0, .int .i64 0, .string ⟨#[]⟩, .int .i64 0, .int .i64 0, .int .i64 0, .string ⟨#[]⟩, .int .i64 0, .int .i64 0, .int .i64 0, .string ⟨#[]⟩, .int .i64 0, .int .i64 0, .int .i64 0, .string ⟨#[]⟩] 2).run Tryz.prog w = .ok (.string ⟨#[]⟩) w := by kernel_rfl
theorem p3 (c a : Int) (w : World) : (part 33 #[.int .i64 c, .int .i64 a, .string ⟨#[]⟩, .int .i64 0, .int .i64 0, .int .i64 0, .string ⟨#[]⟩, .int .i64 0, .int .i64 0, .int .i64 0, .string ⟨#[]⟩, .int .i64 0, .int .i64 0, .int .i64 0, .string ⟨#[]⟩, .int .i64 0, .int .i64 0, .int .i64 0, .string ⟨#[]⟩] 3).run Tryz.prog w = .ok (.agg #[.int .i64 0, .int .i64 0, .int .i64 0, .string ⟨#[]⟩, .int .i64 0, .int .i64 0, .int .i64 0, .string ⟨#[]⟩, .int .i64 0, .int .i64 0, .int .i64 0, .string ⟨#[]⟩, .int .i64 0, .int .i64 0, .int .i64 0, .string ⟨#[]⟩]) w := by kernel_rfl
theorem eq53 (c a : Int) (w : World) : (Op.equalIn 10000 35 (.agg #[.int .i64 c, .int .i64 a, .string ⟨#[]⟩, .int .i64 0, .int .i64 0, .int .i64 0, .string ⟨#[]⟩, .int .i64 0, .int .i64 0, .int .i64 0, .string ⟨#[]⟩, .int .i64 0, .int .i64 0, .int .i64 0, .string ⟨#[]⟩, .int .i64 0, .int .i64 0, .int .i64 0, .string ⟨#[]⟩]) (.agg #[.int .i64 c, .int .i64 a, .string ⟨#[]⟩, .int .i64 0, .int .i64 0, .int .i64 0, .string ⟨#[]⟩, .int .i64 0, .int .i64 0, .int .i64 0, .string ⟨#[]⟩, .int .i64 0, .int .i64 0, .int .i64 0, .string ⟨#[]⟩, .int .i64 0, .int .i64 0, .int .i64 0, .string ⟨#[]⟩])).run Tryz.prog w = .ok true w := by
  have e0 := p0 c a
  have e1 := p1 c a
  have e2 := p2 c a
  have e3 := p3 c a
  rw [run_equalIn_struct w 9999 35 _ _ str53 held53, flds]
  generalize (#[.int .i64 c, .int .i64 a, .string ⟨#[]⟩, .int .i64 0, .int .i64 0, .int .i64 0, .string ⟨#[]⟩, .int .i64 0, .int .i64 0, .int .i64 0, .string ⟨#[]⟩, .int .i64 0, .int .i64 0, .int .i64 0, .string ⟨#[]⟩, .int .i64 0, .int .i64 0, .int .i64 0, .string ⟨#[]⟩] : Array Value) = X at *
  have i0 : ∀ (x : Int) (w : World), (Op.equalIn 9999 3 (.int .i64 x) (.int .i64 x)).run Tryz.prog w = .ok true w := fun x w => by
    rw [run_equalIn_int w 9998 3 .i64 .i64 x x (by kernel_rfl)]
    simp
  have i2 : ∀ (w : World), (Op.equalIn 9999 9 (.string ⟨#[]⟩) (.string ⟨#[]⟩)).run Tryz.prog w = .ok true w := fun w => by
    rw [run_equalIn_string w 9998 9 _ _ (by kernel_rfl)]
    simp
  have i3 := eq_causes
  simp [Op.eqFields, Sem.run_bind, e0, e1, e2, e3, i0, i2, i3]
theorem run_eq53 (c a : Int) (w : World) : (binOp .eql 35 (.agg #[.int .i64 c, .int .i64 a, .string ⟨#[]⟩, .int .i64 0, .int .i64 0, .int .i64 0, .string ⟨#[]⟩, .int .i64 0, .int .i64 0, .int .i64 0, .string ⟨#[]⟩, .int .i64 0, .int .i64 0, .int .i64 0, .string ⟨#[]⟩, .int .i64 0, .int .i64 0, .int .i64 0, .string ⟨#[]⟩]) (.agg #[.int .i64 c, .int .i64 a, .string ⟨#[]⟩, .int .i64 0, .int .i64 0, .int .i64 0, .string ⟨#[]⟩, .int .i64 0, .int .i64 0, .int .i64 0, .string ⟨#[]⟩, .int .i64 0, .int .i64 0, .int .i64 0, .string ⟨#[]⟩, .int .i64 0, .int .i64 0, .int .i64 0, .string ⟨#[]⟩])).run Tryz.prog w = .ok (.bool true) w := by
  rw [run_eql_struct, eq53]
  rfl
end Go.Proofs.YtcldglilhhhdoaaGreatDoor.L
namespace Go.Proofs.YtcldglilhhhdoaaGreatDoor.L
open Go.RowKit Go.Shelf
set_option linter.unusedVariables false
set_option linter.unusedSimpArgs false
def wk : ByteArray := ⟨#[33, 110, 111, 100, 101, 91, 34, 122, 34, 93, 32, 61, 61, 32, 34, 97, 34]⟩
def wkT : List Tok := [⟨4, ⟨#[33]⟩, 0, 0, 1⟩, ⟨3, ⟨#[110, 111, 100, 101]⟩, 0, 1, 5⟩, ⟨4, ⟨#[91]⟩, 0, 5, 6⟩, ⟨1, ⟨#[122]⟩, 0, 6, 9⟩, ⟨4, ⟨#[93]⟩, 0, 9, 10⟩, ⟨4, ⟨#[61, 61]⟩, 0, 11, 13⟩, ⟨1, ⟨#[97]⟩, 0, 14, 17⟩, ⟨0, ⟨#[]⟩, 0, 17, 17⟩]
theorem wk_t0 : tokS wk 0 = .ok ⟨4, ⟨#[33]⟩, 0, 0, 1⟩ := by
  unfold tokS
  rw [if_neg (by decide), if_neg (by decide), if_neg (by decide)]
  unfold markS
  rw [if_neg (by decide), if_pos (by decide)]
  rfl
theorem wk_t1 : tokS wk 1 = .ok ⟨3, ⟨#[110, 111, 100, 101]⟩, 0, 1, 5⟩ := by
  have e : behW wk 1 = 5 := (behW_go wk 1 (by decide) (by decide)).trans ((behW_go wk 2 (by decide) (by decide)).trans ((behW_go wk 3 (by decide) (by decide)).trans ((behW_go wk 4 (by decide) (by decide)).trans (behW_no wk 5 (by decide) (by decide)))))
  unfold tokS
  rw [if_neg (by decide), if_neg (by decide), if_pos (by decide), e]
  rfl
theorem wk_t5 : tokS wk 5 = .ok ⟨4, ⟨#[91]⟩, 0, 5, 6⟩ := by
  unfold tokS
  rw [if_neg (by decide), if_neg (by decide), if_neg (by decide)]
  unfold markS
  rw [if_neg (by decide), if_pos (by decide)]
  rfl
theorem wk_t6 : tokS wk 6 = .ok ⟨1, ⟨#[122]⟩, 0, 6, 9⟩ := by
  unfold tokS
  rw [if_pos (by decide), txS_go wk 6 7 [] (by decide) (by decide) (by decide) (by decide)]
  simp only [List.nil_append, List.cons_append]
  rw [txS_q wk 6 _ _ (by decide) (by decide)]
  rfl
theorem wk_t9 : tokS wk 9 = .ok ⟨4, ⟨#[93]⟩, 0, 9, 10⟩ := by
  unfold tokS
  rw [if_neg (by decide), if_neg (by decide), if_neg (by decide)]
  unfold markS
  rw [if_neg (by decide), if_pos (by decide)]
  rfl
theorem wk_t11 : tokS wk 11 = .ok ⟨4, ⟨#[61, 61]⟩, 0, 11, 13⟩ := by
  unfold tokS
  rw [if_neg (by decide), if_neg (by decide), if_neg (by decide)]
  unfold markS
  rw [if_pos (by decide)]
  rfl
theorem wk_t14 : tokS wk 14 = .ok ⟨1, ⟨#[97]⟩, 0, 14, 17⟩ := by
  unfold tokS
  rw [if_pos (by decide), txS_go wk 14 15 [] (by decide) (by decide) (by decide) (by decide)]
  simp only [List.nil_append, List.cons_append]
  rw [txS_q wk 14 _ _ (by decide) (by decide)]
  rfl
theorem wk_scan : scanT wk = (wkT, none) := by
  have hs : scanT wk = scanS wk 0 := if_pos (by decide)
  have g0 : gapS wk 0 = 0 := gapS_no wk 0 (by decide) (by decide) (by decide)
  have s0 := scan_go (s := wk) (k := 0) (by rw [g0]; decide) (by rw [g0]; exact wk_t0)
  have g1 : gapS wk 1 = 1 := gapS_no wk 1 (by decide) (by decide) (by decide)
  have s1 := scan_go (s := wk) (k := 1) (by rw [g1]; decide) (by rw [g1]; exact wk_t1)
  have g5 : gapS wk 5 = 5 := gapS_no wk 5 (by decide) (by decide) (by decide)
  have s5 := scan_go (s := wk) (k := 5) (by rw [g5]; decide) (by rw [g5]; exact wk_t5)
  have g6 : gapS wk 6 = 6 := gapS_no wk 6 (by decide) (by decide) (by decide)
  have s6 := scan_go (s := wk) (k := 6) (by rw [g6]; decide) (by rw [g6]; exact wk_t6)
  have g9 : gapS wk 9 = 9 := gapS_no wk 9 (by decide) (by decide) (by decide)
  have s9 := scan_go (s := wk) (k := 9) (by rw [g9]; decide) (by rw [g9]; exact wk_t9)
  have g10 : gapS wk 10 = 11 := (gapS_blk wk 10 (by decide) (by decide)).trans (gapS_no wk 11 (by decide) (by decide) (by decide))
  have s10 := scan_go (s := wk) (k := 10) (by rw [g10]; decide) (by rw [g10]; exact wk_t11)
  have g13 : gapS wk 13 = 14 := (gapS_blk wk 13 (by decide) (by decide)).trans (gapS_no wk 14 (by decide) (by decide) (by decide))
  have s13 := scan_go (s := wk) (k := 13) (by rw [g13]; decide) (by rw [g13]; exact wk_t14)
  have g17 : gapS wk 17 = 17 := gapS_end wk 17 (by decide)
  have s17 : scanS wk 17 = ([tokE wk.size], none) := scan_fin (by rw [g17]; decide)
  simp only at s0 s1 s5 s6 s9 s10 s13
  rw [hs, s0, s1, s5, s6, s9, s10, s13, s17]
  rfl
def wn : ByteArray := ⟨#[116, 114, 117, 101, 32, 116, 114, 117, 101]⟩
def wnT : List Tok := [⟨3, ⟨#[116, 114, 117, 101]⟩, 0, 0, 4⟩, ⟨3, ⟨#[116, 114, 117, 101]⟩, 0, 5, 9⟩, ⟨0, ⟨#[]⟩, 0, 9, 9⟩]
theorem wn_t0 : tokS wn 0 = .ok ⟨3, ⟨#[116, 114, 117, 101]⟩, 0, 0, 4⟩ := by
  have e : behW wn 0 = 4 := (behW_go wn 0 (by decide) (by decide)).trans ((behW_go wn 1 (by decide) (by decide)).trans ((behW_go wn 2 (by decide) (by decide)).trans ((behW_go wn 3 (by decide) (by decide)).trans (behW_no wn 4 (by decide) (by decide)))))
  unfold tokS
  rw [if_neg (by decide), if_neg (by decide), if_pos (by decide), e]
  rfl
theorem wn_t5 : tokS wn 5 = .ok ⟨3, ⟨#[116, 114, 117, 101]⟩, 0, 5, 9⟩ := by
  have e : behW wn 5 = 9 := (behW_go wn 5 (by decide) (by decide)).trans ((behW_go wn 6 (by decide) (by decide)).trans ((behW_go wn 7 (by decide) (by decide)).trans ((behW_go wn 8 (by decide) (by decide)).trans (behW_end wn 9 (by decide)))))
  unfold tokS
  rw [if_neg (by decide), if_neg (by decide), if_pos (by decide), e]
  rfl
theorem wn_scan : scanT wn = (wnT, none) := by
  have hs : scanT wn = scanS wn 0 := if_pos (by decide)
  have g0 : gapS wn 0 = 0 := gapS_no wn 0 (by decide) (by decide) (by decide)
  have s0 := scan_go (s := wn) (k := 0) (by rw [g0]; decide) (by rw [g0]; exact wn_t0)
  have g4 : gapS wn 4 = 5 := (gapS_blk wn 4 (by decide) (by decide)).trans (gapS_no wn 5 (by decide) (by decide) (by decide))
  have s4 := scan_go (s := wn) (k := 4) (by rw [g4]; decide) (by rw [g4]; exact wn_t5)
  have g9 : gapS wn 9 = 9 := gapS_end wn 9 (by decide)
  have s9 : scanS wn 9 = ([tokE wn.size], none) := scan_fin (by rw [g9]; decide)
  simp only at s0 s4
  rw [hs, s0, s4, s9]
  rfl
set_option maxRecDepth 100000 in
theorem wk_par : wholeP wkT 16392 = .ok ((), ⟨7, 0, [⟨14, ⟨#[122]⟩, 2, []⟩, ⟨11, ⟨#[97]⟩, 0, []⟩, ⟨6, ⟨#[]⟩, 1, [0, 1]⟩, ⟨3, ⟨#[]⟩, 0, [2]⟩], [1, 14, 11, 0]⟩) := by
  simp [wholeP, gr, rowP, rowsP, unitP, negP, withP, atomP, constP, compP, termP, wordP, whoP, elP, bnd, markP, textP, openP, shutP, putP, adv, isM, isEl, rfE, betO, cmpO, tk, ByteArray.toList_eq, wkT]
set_option maxRecDepth 100000 in
theorem wn_par : wholeP wnT 16392 = .error (120, 5) := by
  simp [wholeP, gr, rowP, rowsP, unitP, negP, withP, atomP, constP, compP, termP, wordP, whoP, elP, bnd, markP, textP, openP, shutP, putP, adv, isM, isEl, rfE, betO, cmpO, tk, ByteArray.toList_eq, wnT]
end Go.Proofs.YtcldglilhhhdoaaGreatDoor.L
namespace Go.Proofs.YtcldglilhhhdoaaGreatDoor.L
open Go.RowKit
set_option linter.unusedVariables false
set_option linter.unusedSimpArgs false
set_option maxHeartbeats 4000000 in
set_option maxRecDepth 100000 in
theorem sints_yes (a b : Option Addr) (A : List Int) (ca cb : Nat) (w : World) (ha : RdI w a A) (hb : RdI w b A) (hA : A.length ≤ 140737488355328) :
    Calls Tryz.prog 14 #[.slice a A.length ca, .slice b A.length cb] w fun e w' => e = .returned (.bool true) ∧ Below w.heap.size w w' := by
  obtain ⟨L, hL⟩ : ∃ L, L = A.length := ⟨_, rfl⟩
  rw [← hL] at hA ⊢
  have RA := hid ha
  have RB := hid hb
  have HLA := hid hL
  have hm : L ≤ maxLen := by unfold maxLen; omega
  have e0 : ((L : Int) != (L : Int)) = false := by simp
  clear ha hb hL
  go_enter Tryz.func14, Tryz.ntmps14
  go_wp2
  go_loopw [5] (fun i wr => ∃ k : Nat, k ≤ L ∧ i = .int .i64 k ∧ Hid (∃ m, wr = w.drewN m)) (fun i _ => L - (intOf i).toNat)
  case atStart => exact ⟨0, Nat.zero_le _, rfl, hid ⟨0, rfl⟩⟩
  case round =>
    obtain ⟨k, hk, rfl, HB⟩ := hrel
    by_cases hlt : k < L
    · obtain ⟨m0, hm0⟩ := HB.out
      have r1 : RdI wr a A := by rw [hm0]; exact RA.out
      have r2 : RdI wr b A := by rw [hm0]; exact RB.out
      have HM := hid hm0
      clear hm0
      rcases r1 with h0 | ⟨b1, o1, rfl, hb1, hc1⟩
      · have := HLA.out; omega
      rcases r2 with h0 | ⟨b2, o2, rfl, hb2, hc2⟩
      · have := HLA.out; omega
      have p0 := hc1 k (by rw [← HLA.out]; exact hlt)
      have q0 := hc2 k (by rw [← HLA.out]; exact hlt)
      generalize A.getD k 0 = x at *
      clear hc1 hc2
      have g1 : (k : Int) < (L : Int) := by omega
      have g2 : (0 : Int) ≤ (k : Int) := by omega
      have e1 : (x != x) = false := by simp
      go_wp2_with fail
      go_quiet (fail)
      go_wp2_with fail
      refine ⟨⟨k + 1, by omega, by go_num, hid ⟨m0 + nq, by rw [HM.out, World.drewN_drewN]⟩⟩, by simp [intOf]; omega⟩
    · have hkl : k = L := by omega
      subst hkl
      go_wp2_with fail
      go_ret
      obtain ⟨m0, hm0⟩ := HB.out
      exact ⟨rfl, by rw [hm0]; exact below_drewN (Below.refl _ w) _⟩
theorem own_rdi {W : World} {B : Nat} {v : Value} {l : List Int} (h : OwnI W B v l) : ∃ a c, v = .slice a l.length c ∧ RdI W a l := by
  rcases h.2 with ⟨e, n0⟩ | ⟨g, cap, cur, e, hb, hg, h3⟩
  · exact ⟨none, 0, by rw [e, n0], Or.inl n0⟩
  · refine ⟨_, cap, e, Or.inr ⟨g, 0, rfl, lt_blk hg, fun j hj => ?_⟩⟩
    subst e
    rw [Nat.zero_add, World.ownsRow.cellAt h j (by omega)]
    simp [hj]
end Go.Proofs.YtcldglilhhhdoaaGreatDoor.L
