import Derived.Test.YtiddnjjaidiohaaGreatDoorSb1
import Derived.Test.YtiddnjjaidiohaaGreatDoorS2
namespace Go.Proofs.YtiddnjjaidiohaaGreatDoor.L
open Go.RowKit Go.Extern.Stop Go.Stop Go.Extern
set_option linter.unusedVariables false
/-- The variable errors.errorType holds its type. -/
def Gv (w : World) : Prop := w.cell? ⟨0, 0, none⟩ = some (.iface 115 (.agg #[.pointer (some ⟨4, 37, none⟩)]))
theorem Gv.lt {w : World} (h : Gv w) : 0 < w.heap.size := lt_of_cell (t := ⟨0, 0, none⟩) h
theorem Gv.low {w w' : World} (h : Gv w) (hb : Below w.heap.size w w') : Gv w' := (hb.cell h.lt).trans h
theorem Gv.but {w w' : World} {g : Nat} (h : Gv w) (hb : But g w w') (hg : g ≠ 0) : Gv w' := (World.cell?_of_block (w := w) (a := ⟨0, 0, none⟩) (hb.block 0 h.lt (Ne.symm hg))).trans h
theorem but_new {w0 w w' : World} {g : Nat} (h : Below w0.heap.size w0 w) (hb : But g w w') (hg : w0.heap.size ≤ g) : Below w0.heap.size w0 w' := ⟨hb.os.trans h.os, hb.tape.trans h.tape, hb.output.trans h.output, Nat.le_trans h.size hb.size, fun k hk => (hb.block k (Nat.lt_of_lt_of_le hk h.size) (by omega)).trans (h.block k hk)⟩
/-- A fault with a fault as its cause. -/
def FltC (W : World) (M : Nat) (i : Int) (N : Nat) : Prop := W.heap[M]? = some (.cells #[.int .i64 140, .int .i64 i, .string ⟨#[]⟩, fv N] 52 (0, 0))
theorem FltC.low {W W' : World} {M N : Nat} {i : Int} (h : FltC W M i N) (hb : Below W.heap.size W W') : FltC W' M i N := (hb.block M (lt_blk h)).trans h
/-- What valid answers. -/
def VaR (T : List Pt) (W : World) (ev : Value) : Prop := (ev = .nilIface ∧ Res T 0 0) ∨ ∃ M N c i : Nat, ev = fv M ∧ FltC W M i N ∧ Flt W N c i ∧ Res T c i ∧ c ≠ 0
theorem VaR.low {T : List Pt} {W W' : World} {ev : Value} (h : VaR T W ev) (hb : Below W.heap.size W W') : VaR T W' ev := by
  rcases h with h | ⟨M, N, c, i, h1, h2, h3, h4⟩
  · exact .inl h
  · exact .inr ⟨M, N, c, i, h1, h2.low hb, h3.low hb, h4⟩
/-- errors.As of no error, or of one in which a fault is met. -/
theorem as_e (ev : Value) (tb : Nat) (old : Value) (w : World) (he : ev = .nilIface ∨ ∃ N, ErN N ev) (hg : Gv w) (ht : w.heap[tb]? = some (.cells #[old] 48 (0, 0))) :
    Calls Tryz.prog 26 #[ev, .iface 73 (.pointer (some ⟨tb, 0, none⟩))] w
      fun e w' => ∃ b : Bool, e = .returned (.bool b) ∧ But tb w w' ∧ ((b = false ∧ ev = .nilIface ∧ w' = w) ∨ (b = true ∧ ∃ N, ErN N ev ∧ w'.cell? ⟨tb, 0, none⟩ = some (.pointer (some ⟨N, 0, none⟩)))) := by
  rcases he with rfl | ⟨N, he⟩
  · refine (as_nil _ w).mono ?_
    rintro e w' ⟨rfl, rfl⟩
    exact ⟨false, rfl, But.refl _ _, .inl ⟨rfl, rfl, rfl⟩⟩
  · refine (as_any ev N tb old w he hg ht).mono ?_
    rintro e w' ⟨rfl, hc, hb⟩
    exact ⟨true, rfl, hb, .inr ⟨rfl, N, he, hc⟩⟩
theorem ErrR.erN {T : List Pt} {B : Nat} {W : World} {ev : Value} (h : ErrR T B W ev) : ev = .nilIface ∨ ∃ N, ErN N ev := by
  rcases h with ⟨h, _⟩ | ⟨N, c, i, rfl, _⟩
  · exact .inl h
  · exact .inr ⟨N, .flt⟩
theorem ErN.one {N M : Nat} (h : ErN N (fv M)) : N = M := by
  cases h with
  | flt => rfl
set_option maxHeartbeats 8000000 in
set_option maxRecDepth 100000 in
theorem svalid_any (a : Option Addr) (T : List Pt) (cap : Nat) (w : World) (hT : PL w a T) (hG : GdT T) (hg : Gv w) :
    Calls Tryz.prog 39 #[.agg #[.slice a T.length cap]] w fun e w' => ∃ ev, e = .returned ev ∧ Below w.heap.size w w' ∧ VaR T w' ev := by
  have HB0 := hid (belowA w (.cells #[.slice a T.length cap] 26))
  have HX0 := hid (heap_alloc_new w (.cells #[.slice a T.length cap] 26))
  have HB1 := hid (belowA (w.alloc (.cells #[.slice a T.length cap] 26)) (.cells #[.pointer none] 48))
  have HX1 := hid (heap_alloc_new (w.alloc (.cells #[.slice a T.length cap] 26)) (.cells #[.pointer none] 48))
  have HBB := hid (bchS HB0.out HB1.out)
  have HSZ := hid (show (w.alloc (.cells #[.slice a T.length cap] 26)).heap.size = w.heap.size + 1 by simp)
  rw [HSZ.out] at HX1
  have HVA := hid (valid_any a T cap _ (hT.low HBB.out) hG)
  have HG := hid (hg.low HBB.out)
  generalize T.length = L at *
  clear hT hg
  go_enter Tryz.func39, Tryz.ntmps39
  go_upto_region 2 with (fail)
  generalize (w.alloc (.cells #[.slice a L cap] 26)).alloc (.cells #[.pointer none] 48) = X at *
  have x0 := cell_of_one ((HB1.out.block _ (lt_blk HX0.out)).trans HX0.out)
  go_upto_region 3 with (first
    | (go_at_call 15; refine HVA.out.mono ?_; rintro e w1 ⟨ev, rfl, l1, hr⟩; have L1 := hid l1; have HR := hid hr; clear l1 hr)
    | (go_at_call 26; refine (as_e _ _ (.pointer none) _ HR.out.erN (HG.out.low L1.out) ((L1.out.block _ (lt_blk HX1.out)).trans HX1.out)).mono ?_; rintro e w2 ⟨b, rfl, hb, hr⟩; have HB := hid hb; have HA := hid hr; clear hb hr))
  have HLX := hid (lt_blk HX1.out)
  · rcases HA.out with ⟨rfl, _⟩ | ⟨_, N, hn, hc⟩
    · contradiction
    rcases HR.out with ⟨rfl, _⟩ | ⟨N1, c, i, rfl, hf, hN, hr, hc0⟩
    · cases hn
    obtain rfl := hn.one
    have F2 := hid (show Flt w2 N c i from (HB.out.block N (lt_blk hf) (by have := HLX.out; omega)).trans hf)
    have ⟨q0, q1, q2, q3⟩ := cells4 F2.out
    have HRS := hid (And.intro hr hc0)
    have HBX := hid (but_new (HBB.out.trans (L1.out.mono HBB.out.size)) HB.out (by omega))
    have HB3 := hid (belowA w2 (.cells #[.int .i64 140, .int .i64 (i : Int), .string ⟨#[]⟩, fv N] 52))
    have HX3 := hid (heap_alloc_new w2 (.cells #[.int .i64 140, .int .i64 (i : Int), .string ⟨#[]⟩, fv N] 52))
    clear hr hc0 hf hn x0
    simp only [fv] at HX3 HB3
    go_region
    clear q0 q1 q2 q3 hc
    go_wp2_with fail
    go_ret
    exact ⟨_, rfl, HBX.out.trans (HB3.out.drew.mono HBX.out.size), .inr ⟨_, N, c, i, rfl, HX3.out, F2.out.low HB3.out.drew, HRS.out⟩⟩
  · rcases HA.out with ⟨_, rfl, rfl⟩ | ⟨rfl, _⟩
    · go_ret
      refine ⟨_, rfl, HBB.out.trans (L1.out.mono HBB.out.size), .inl ⟨rfl, ?_⟩⟩
      rcases HR.out with ⟨_, h⟩ | ⟨N, c, i, h, _⟩
      · exact h
      · cases h
    · contradiction
end Go.Proofs.YtiddnjjaidiohaaGreatDoor.L
