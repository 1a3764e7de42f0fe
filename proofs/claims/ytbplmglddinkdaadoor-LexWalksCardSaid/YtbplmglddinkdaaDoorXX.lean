import Derived.Test.YtbplmglddinkdaaDoorXW
namespace Go.Proofs.YtbplmglddinkdaaDoor.L
open Go.RowKit Go.Shelf
set_option linter.unusedVariables false
theorem rscan_ok (s : ByteArray) (l : List Tok) (w : World) (h : scanT s = (l, none)) : Calls Tryd.prog 10 #[.string s] w fun e w' => ∃ v, e = .returned (.tuple #[v, .int .i64 0, .int .i64 0]) ∧ OwnT w' w.heap.size v l ∧ Below w.heap.size w w' := by
  refine (rscan_any s w).mono ?_
  rintro e w' ⟨hb, h1⟩
  rw [h] at h1
  rcases h1 with ⟨v, _, e1, o⟩ | ⟨c, a, h2, _⟩
  · exact ⟨v, e1, o, hb⟩
  · cases h2
theorem rscan_bad (s : ByteArray) (c a : Nat) (w : World) (h : (scanT s).2 = some (c, a)) : Calls Tryd.prog 10 #[.string s] w fun e w' => e = .returned (.tuple #[.slice none 0 0, .int .i64 (c : Int), .int .i64 (a : Int)]) ∧ Below w.heap.size w w' := by
  refine (rscan_any s w).mono ?_
  rintro e w' ⟨hb, h1⟩
  rw [h] at h1
  rcases h1 with ⟨v, h2, _⟩ | ⟨c', a', h2, e1⟩
  · cases h2
  · cases h2
    exact ⟨e1, hb⟩
/-- Texts that came in. -/
def Txts (W : World) (v : Value) (l : List ByteArray) : Prop := ∃ a cap, v = .slice a l.length cap ∧ (l.length = 0 ∨ ∃ b off, a = some ⟨b, off, none⟩ ∧ b < W.heap.size ∧ ∀ j, j < l.length → W.cell? ⟨b, off + j, none⟩ = some (.string (l.getD j ByteArray.empty)))
set_option maxHeartbeats 8000000 in
set_option maxRecDepth 100000 in
theorem scans_any (v : Value) (l : List ByteArray) (w : World) (hv : Txts w v l) (hn : l.length ≤ 9000000000000000000) (hvar : Vars w) :
    Calls Tryd.prog 3 #[v] w fun e w' => e = .returned (.bool true) ∧ Below w.heap.size w w' := by
  have HF := hid (fixed_any w hvar)
  have HV := hid hvar
  obtain ⟨a, cap, rfl, hi⟩ := hv
  obtain ⟨n, hN⟩ : ∃ n, l.length = n := ⟨_, rfl⟩
  rw [hN] at hn hi ⊢
  have HI := hid hi
  clear hi hN hvar
  go_enter Tryd.func3, Tryd.ntmps3
  go_wp2_with (go_at_call 8; refine HF.out.mono ?_; rintro e w1 ⟨rfl, l1⟩; have L1 := hid l1; clear l1)
  go_loopw [14] (fun i wr => ∃ k : Nat, k ≤ n ∧ i = .int .i64 k ∧ Hid (Below w.heap.size w wr)) (fun i _ => n - (intOf i).toNat)
  case atStart => exact ⟨0, Nat.zero_le _, rfl, L1⟩
  case round =>
    obtain ⟨k, hk, rfl, HB⟩ := hrel
    by_cases hlt : k < n
    · rcases HI.out with h0 | ⟨b, off, rfl, hbl, hc⟩
      · omega
      have c0 := hc k hlt
      rw [← HB.out.cell (p := ⟨b, off + k, none⟩) hbl] at c0
      have hsz : b < wr.heap.size := Nat.lt_of_lt_of_le hbl HB.out.size
      generalize l.getD k ByteArray.empty = s at *
      clear hc HI
      have HV2 := hid (HV.out.low HB.out)
      have hTL := scanT_len s
      obtain ⟨tl, fo, hT⟩ : ∃ tl fo, scanT s = (tl, fo) := ⟨_, _, rfl⟩
      have A1 := hid (fun W hv => scan_ok s tl W hv)
      have A2 := hid (fun W => rscan_ok s tl W)
      cases fo with
      | none =>
        have A1 := hid (fun W hv => scan_ok s tl W hv hT)
        have A2 := hid (fun W => rscan_ok s tl W hT)
        have A3 := hid (fun v1 v2 W (h1 : TokL W v1 tl) (h2 : TokL W v2 tl) => same_tokens v1 v2 tl W h1 h2 (by rw [hT] at hTL; exact hTL))
        have IF := hid (fun W => isfault_ok 0 W)
        clear hT hTL
        go_wp2_with (first
          | (go_at_call 9; refine (A1.out _ HV2.out).mono ?_; rintro e w2 ⟨v2, rfl, o2, l2⟩; have O2 := hid o2; have L2 := hid (HB.out.trans (l2.mono HB.out.size)); clear l2 o2)
          | (go_at_call 10; refine (A2.out _).mono ?_; rintro e w3 ⟨v3, rfl, o3, l3⟩; have O3 := hid o3; have P3 := hid ((ownt_low O2.out l3).lst); have L3 := hid (L2.out.trans (l3.mono L2.out.size)); clear l3 o3)
          | (go_at_call 11; refine (A3.out _ _ _ P3.out O3.out.lst).mono ?_; rintro e w4 ⟨rfl, l4⟩; have L4 := hid (L3.out.trans (l4.mono L3.out.size)); clear l4)
          | (go_at_call 12; refine (IF.out _).mono ?_; rintro e w6 ⟨rfl, hww⟩; have hw2 := hww.symm; clear hww; subst hw2))
        exact ⟨⟨k + 1, by omega, by go_num, L4⟩, by simp [intOf]; omega⟩
      | some p =>
        obtain ⟨cd, pl⟩ := p
        have hT2 : (scanT s).2 = some (cd, pl) := by rw [hT]
        have hcd := scanT_code s hT2
        have A1 := hid (fun W hv => scan_bad' s cd pl W hv hT2)
        have A2 := hid (fun W => rscan_bad s cd pl W hT2)
        have A3 := hid (fun W => same_tokens (.slice none 0 0) (.slice none 0 0) [] W (tokl_nil W) (tokl_nil W) (by decide))
        have IF := hid (fun N W (h : Flt W N cd pl) => isfault_yes N cd pl W h hcd)
        unfold fv at IF
        clear hT hT2 hTL hcd
        go_wp2_with (first
          | (go_at_call 9; refine (A1.out _ HV2.out).mono ?_; rintro e w2 ⟨N, he, f2, n2, l2⟩; unfold fv at he; subst he; have F2 := hid f2; have L2 := hid (HB.out.trans (l2.mono HB.out.size)); clear l2 f2 n2)
          | (go_at_call 10; refine (A2.out _).mono ?_; rintro e w3 ⟨rfl, l3⟩; have F3 := hid (F2.out.low l3 F2.out.lt); have L3 := hid (L2.out.trans (l3.mono L2.out.size)); clear l3)
          | (go_at_call 11; refine (A3.out _).mono ?_; rintro e w4 ⟨rfl, l4⟩; have F4 := hid (F3.out.low l4 F3.out.lt); have L4 := hid (L3.out.trans (l4.mono L3.out.size)); clear l4)
          | (go_at_call 12; refine (IF.out _ _ F4.out).mono ?_; rintro e w6 ⟨rfl, hww⟩; have hw2 := hww.symm; clear hww; subst hw2))
        exact ⟨⟨k + 1, by omega, by go_num, L4⟩, by simp [intOf]; omega⟩
    · obtain rfl : k = n := by omega
      go_wp2
      go_ret
      exact ⟨rfl, HB.out⟩
end Go.Proofs.YtbplmglddinkdaaDoor.L
