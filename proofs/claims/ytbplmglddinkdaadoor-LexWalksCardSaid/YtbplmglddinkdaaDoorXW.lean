import Derived.Test.YtbplmglddinkdaaDoorXV
namespace Go.Proofs.YtbplmglddinkdaaDoor.L
open Go.RowKit Go.Shelf
set_option linter.unusedVariables false
def fx : ByteArray := ⟨#[33, 120, 33, 61, 45, 49, 50]⟩
def fxT : List Tok := [⟨4, ⟨#[33]⟩, 0, 0, 1⟩, ⟨3, ⟨#[120]⟩, 0, 1, 2⟩, ⟨4, ⟨#[33, 61]⟩, 0, 2, 4⟩, ⟨2, ⟨#[]⟩, -12, 4, 7⟩, ⟨0, ⟨#[]⟩, 0, 7, 7⟩]
theorem fx_size : fx.size = 7 := rfl
theorem fx_gap {k : Nat} (h : k < 7) (h1 : bt fx k ≠ 35) (h2 : blkB (iv (bt fx k)) = false) : gapS fx k = k := gapS_no fx k h h1 h2
theorem fx0 : tokS fx 0 = .ok ⟨4, ⟨#[33]⟩, 0, 0, 1⟩ := by
  unfold tokS
  rw [if_neg (by decide), if_neg (by decide), if_neg (by decide)]
  unfold markS
  rw [if_neg (by decide), if_pos (by decide)]
  rfl
theorem fx1 : tokS fx 1 = .ok ⟨3, ⟨#[120]⟩, 0, 1, 2⟩ := by
  have e : behW fx 1 = 2 := (behW_go fx 1 (by decide) (by decide)).trans (behW_no fx 2 (by decide) (by decide))
  unfold tokS
  rw [if_neg (by decide), if_neg (by decide), if_pos (by decide), e]
  rfl
theorem fx2 : tokS fx 2 = .ok ⟨4, ⟨#[33, 61]⟩, 0, 2, 4⟩ := by
  unfold tokS
  rw [if_neg (by decide), if_neg (by decide), if_neg (by decide)]
  unfold markS
  rw [if_pos (by decide)]
  rfl
theorem fx4 : tokS fx 4 = .ok ⟨2, ⟨#[]⟩, -12, 4, 7⟩ := by
  have e : behW fx 5 = 7 := ((behW_go fx 5 (by decide) (by decide)).trans (behW_go fx 6 (by decide) (by decide))).trans (behW_end fx 7 (by decide))
  have hn : numS (fx.extract 4 7) = some (-12) := by rw [show fx.extract 4 7 = ⟨#[45, 49, 50]⟩ from rfl]; rfl
  unfold tokS
  rw [if_neg (by decide), if_pos (by decide)]
  unfold numTok
  rw [show (4 : Nat) + 1 = 5 from rfl, e, hn]
theorem fx_scan : scanT fx = (fxT, none) := by
  have hs : scanT fx = scanS fx 0 := if_pos (by decide)
  have g0 : gapS fx 0 = 0 := fx_gap (by decide) (by decide) (by decide)
  have g1 : gapS fx 1 = 1 := fx_gap (by decide) (by decide) (by decide)
  have g2 : gapS fx 2 = 2 := fx_gap (by decide) (by decide) (by decide)
  have g4 : gapS fx 4 = 4 := fx_gap (by decide) (by decide) (by decide)
  have g7 : gapS fx 7 = 7 := gapS_end fx 7 (by decide)
  have s7 : scanS fx 7 = ([tokE fx.size], none) := scan_fin (by rw [g7]; decide)
  have s4 := scan_go (s := fx) (k := 4) (by rw [g4]; decide) (by rw [g4]; exact fx4)
  have s2 := scan_go (s := fx) (k := 2) (by rw [g2]; decide) (by rw [g2]; exact fx2)
  have s1 := scan_go (s := fx) (k := 1) (by rw [g1]; decide) (by rw [g1]; exact fx1)
  have s0 := scan_go (s := fx) (k := 0) (by rw [g0]; decide) (by rw [g0]; exact fx0)
  simp only at s0 s1 s2 s4
  rw [hs, s0, s1, s2, s4, s7]
  rfl
theorem scan_ok (s : ByteArray) (l : List Tok) (w : World) (hv : Vars w) (h : scanT s = (l, none)) : Calls Tryd.prog 9 #[.string s] w fun e w' => ∃ v, e = .returned (.tuple #[v, .nilIface]) ∧ OwnT w' w.heap.size v l ∧ Below w.heap.size w w' := by
  refine (scan_any s w hv).mono ?_
  rintro e w' ⟨hb, h1⟩
  rw [h] at h1
  rcases h1 with ⟨v, _, e1, o⟩ | ⟨N, c, a, h2, _⟩
  · exact ⟨v, e1, o, hb⟩
  · cases h2
theorem scan_bad' (s : ByteArray) (c a : Nat) (w : World) (hv : Vars w) (h : (scanT s).2 = some (c, a)) : Calls Tryd.prog 9 #[.string s] w fun e w' => ∃ N, e = .returned (.tuple #[.slice none 0 0, fv N]) ∧ Flt w' N c a ∧ w.heap.size ≤ N ∧ Below w.heap.size w w' := by
  refine (scan_any s w hv).mono ?_
  rintro e w' ⟨hb, h1⟩
  rw [h] at h1
  rcases h1 with ⟨v, h2, _⟩ | ⟨N, c', a', h2, e1, f, hN⟩
  · cases h2
  · cases h2
    exact ⟨N, e1, f, hN, hb⟩
theorem cellsT_len (l : List Tok) : (cellsT l).length = l.length * 5 := by
  induction l with
  | nil => rfl
  | cons t r ih =>
    have : cellsT (t :: r) = [Value.int .i64 t.kind, .string t.text, .int .i64 t.num, .int .i64 t.a, .int .i64 t.e] ++ cellsT r := rfl
    rw [this, List.length_append, ih]
    simp
    omega
theorem lit_toks (w : World) (l : List Tok) (h : l.length ≤ 4097) : OwnT (w.alloc (.cells (cellsT l).toArray 39)) w.heap.size (.slice (some ⟨w.heap.size, 0, none⟩) l.length l.length) l := by
  refine ⟨cellsT_len l, .inr ⟨w.heap.size, l.length, _, rfl, Nat.le_refl _, heap_alloc_new w _, Nat.le_refl _, by unfold maxLen; omega, by rw [List.size_toArray, cellsT_len], ?_⟩⟩
  rw [← cellsT_len l]
  simp
set_option maxHeartbeats 8000000 in
set_option maxRecDepth 100000 in
theorem fixed_any (w : World) (hv : Vars w) : Calls Tryd.prog 8 #[] w fun e w' => e = .returned (.bool true) ∧ Below w.heap.size w w' := by
  have HS := hid (scan_ok fx fxT w hv fx_scan)
  unfold fx at HS
  go_enter Tryd.func8, Tryd.ntmps8
  go_wp2_with (go_at_call 9; refine HS.out.mono ?_; rintro x w1 ⟨v, rfl, o1, l1⟩; have L1 := hid l1; have O1 := hid o1; clear l1 o1)
  have hlit := lit_toks w1 fxT (by decide)
  have h2 := (ownt_low O1.out (belowA w1 (.cells (cellsT fxT).toArray 39))).lst
  have B2 := hid (L1.out.alloc L1.out.size (.cells (cellsT fxT).toArray 39))
  refine (same_tokens v _ fxT (w1.alloc (.cells (cellsT fxT).toArray 39)) h2 hlit.lst (by decide)).mono ?_
  rintro x w2 ⟨rfl, l2⟩
  have B3 := hid (B2.out.trans (l2.mono (by have := L1.out.size; simp; omega)))
  clear l2 h2 hlit
  go_wp2_with fail
  go_ret
  exact ⟨rfl, B3.out⟩
end Go.Proofs.YtbplmglddinkdaaDoor.L
