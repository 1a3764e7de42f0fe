import Derived.Test.YtbplmglddinkdaaXA
namespace Go.Proofs.Ytbplmglddinkdaa.L
open Go.RowKit Go.Shelf
set_option linter.unusedVariables false
theorem unq_fix : unqS ⟨#[34, 92, 120, 52, 49, 92, 110, 34]⟩ = .ok [65, 10] 8 := by
  have h : txS ⟨#[34, 92, 120, 52, 49, 92, 110, 34]⟩ 0 1 [] = .ok [65, 10] 8 := by
    rw [txS_e _ _ _ _ (by decide) (by decide) (by decide), show 1 + (esc3 ⟨#[34, 92, 120, 52, 49, 92, 110, 34]⟩ 1).2 = 5 by decide, show (esc3 ⟨#[34, 92, 120, 52, 49, 92, 110, 34]⟩ 1).1 = 65 by decide]
    rw [txS_e _ _ _ _ (by decide) (by decide) (by decide), show 5 + (esc3 ⟨#[34, 92, 120, 52, 49, 92, 110, 34]⟩ 5).2 = 7 by decide, show (esc3 ⟨#[34, 92, 120, 52, 49, 92, 110, 34]⟩ 5).1 = 10 by decide]
    rw [txS_q _ _ _ _ (by decide) (by decide)]
    rfl
  unfold unqS
  rw [if_neg (by decide), if_neg (by decide), h]
  rfl
theorem quote_fix : quoteL (⟨#[97, 34, 0, 255]⟩ : ByteArray).data.toList = [34, 97, 92, 34, 92, 120, 48, 48, 92, 120, 102, 102, 34] := by decide
set_option maxHeartbeats 4000000 in
theorem fixq_any (w : World) : Calls Try.prog 4 #[] w fun e w' => e = .returned (.bool true) ∧ Below w.heap.size w w' := by
  have HU := hid (unq_any ⟨#[34, 92, 120, 52, 49, 92, 110, 34]⟩ w (by decide))
  rw [unq_fix] at HU
  have HQ := hid (fun W => quote_any ⟨#[97, 34, 0, 255]⟩ W (by decide))
  rw [quote_fix] at HQ
  go_enter Try.func4, Try.ntmps4
  go_wp2_with (first | (go_at_call 7; refine HU.out.mono ?_; rintro e w1 ⟨he, l1⟩; subst he; have L1 := hid l1; clear l1) | (go_at_call 5; refine (HQ.out _).mono ?_; rintro e w2 ⟨rfl, l2⟩; have L2 := hid l2; clear l2))
  go_ret
  exact ⟨rfl, L1.out.trans (L2.out.mono L1.out.size)⟩
/-- Texts that came in. -/
def Txts (W : World) (v : Value) (l : List ByteArray) : Prop := ∃ a cap, v = .slice a l.length cap ∧ (l.length = 0 ∨ ∃ b off, a = some ⟨b, off, none⟩ ∧ b < W.heap.size ∧ ∀ j, j < l.length → W.cell? ⟨b, off + j, none⟩ = some (.string (l.getD j ByteArray.empty)))
theorem bool_if {b : Bool} (h : b = true) : Value.bool b = .bool true := by rw [h]
set_option maxHeartbeats 8000000 in
theorem quotes_any (v : Value) (l : List ByteArray) (w : World) (hv : Txts w v l) (hn : l.length ≤ 1048576) (hl : ∀ j, j < l.length → (l.getD j ByteArray.empty).size ≤ 1048576) :
    Calls Try.prog 3 #[v] w fun e w' => e = .returned (.bool true) ∧ Below w.heap.size w w' := by
  have HF := hid (fixq_any w)
  have QA := hid (fun (s : ByteArray) (W : World) (h : s.size ≤ 1048576) => quote_any s W h)
  have QB := hid (fun (s : ByteArray) (W : World) (h : s.size ≤ 1048576) => rquote_any s W h)
  have UA := hid (fun (s : ByteArray) (W : World) (h : s.size ≤ 1048576) => unq_any s W (by omega))
  have UB := hid (fun (s : ByteArray) (W : World) (h : s.size ≤ 1048576) => runq_any s W (by omega))
  obtain ⟨a, cap, rfl, hi⟩ := hv
  obtain ⟨n, hN⟩ : ∃ n, l.length = n := ⟨_, rfl⟩
  rw [hN] at hn hl hi ⊢
  have HI := hid hi
  have HL := hid hl
  clear hi hl hN
  go_enter Try.func3, Try.ntmps3
  go_wp2_with (go_at_call 4; refine HF.out.mono ?_; rintro e w1 ⟨rfl, l1⟩; have L1 := hid l1; clear l1)
  go_loopw [14] (fun i wr => ∃ k : Nat, k ≤ n ∧ i = .int .i64 k ∧ Hid (Below w.heap.size w wr)) (fun i _ => n - (intOf i).toNat)
  case atStart => exact ⟨0, Nat.zero_le _, rfl, L1⟩
  case round =>
    obtain ⟨k, hk, rfl, HB⟩ := hrel
    by_cases hlt : k < n
    · rcases HI.out with h0 | ⟨b, off, rfl, hbl, hc⟩
      · omega
      have c0 := hc k hlt
      rw [← HB.out.cell (p := ⟨b, off + k, none⟩) hbl] at c0
      have hs := HL.out k hlt
      have hsz : b < wr.heap.size := Nat.lt_of_lt_of_le hbl HB.out.size
      generalize l.getD k ByteArray.empty = s at *
      have A1 := hid (fun W => QA.out s W hs)
      have A2 := hid (fun W => QB.out s W hs)
      have A3 := hid (fun W => UA.out s W hs)
      have A4 := hid (fun W => UB.out s W hs)
      generalize (⟨(quoteL s.data.toList).toArray⟩ : ByteArray) = q at *
      clear hc HL HI QA QB UA UB
      cases hU : unqS s with
      | ok r z =>
        rw [hU] at A3 A4
        unfold unqV at A4
        have IF := hid (fun W => isfault_ok 0 W)
        generalize (⟨r.toArray⟩ : ByteArray) = t at *
        go_wp2_with (first
          | (go_at_call 5; refine (A1.out _).mono ?_; rintro e w2 ⟨rfl, l2⟩; have L2 := hid (HB.out.trans (l2.mono HB.out.size)); clear l2)
          | (go_at_call 6; refine (A2.out _).mono ?_; rintro e w3 ⟨rfl, l3⟩; have L3 := hid (L2.out.trans (l3.mono L2.out.size)); clear l3)
          | (go_at_call 7; refine (A3.out _).mono ?_; rintro e w4 ⟨rfl, l4⟩; have L4 := hid (L3.out.trans (l4.mono L3.out.size)); clear l4)
          | (go_at_call 8; refine (A4.out _).mono ?_; rintro e w5 ⟨rfl, l5⟩; have L5 := hid (L4.out.trans (l5.mono L4.out.size)); clear l5)
          | (go_at_call 9; refine (IF.out _).mono ?_; rintro e w6 ⟨rfl, hww⟩; have hw2 := hww.symm; clear hww; subst hw2))
        exact ⟨⟨k + 1, by omega, by go_num, L5⟩, by simp [intOf]; omega⟩
      | bad cd pl =>
        rw [hU] at A3 A4
        unfold unqV at A4
        have hcd := unq_code hU
        have IF := hid (fun N W (h : Flt W N cd pl) => isfault_yes N cd pl W h hcd)
        unfold fv at IF
        go_wp2_with (first
          | (go_at_call 5; refine (A1.out _).mono ?_; rintro e w2 ⟨rfl, l2⟩; have L2 := hid (HB.out.trans (l2.mono HB.out.size)); clear l2)
          | (go_at_call 6; refine (A2.out _).mono ?_; rintro e w3 ⟨rfl, l3⟩; have L3 := hid (L2.out.trans (l3.mono L2.out.size)); clear l3)
          | (go_at_call 7; refine (A3.out _).mono ?_; rintro e w4 ⟨N, he, f4, n4, l4⟩; unfold fv at he; subst he; have L4 := hid (L3.out.trans (l4.mono L3.out.size)); have F4 := hid f4; clear l4 f4 n4)
          | (go_at_call 8; refine (A4.out _).mono ?_; rintro e w5 ⟨rfl, l5⟩; have L5 := hid (L4.out.trans (l5.mono L4.out.size)); have F5 := hid (F4.out.low l5 F4.out.lt); clear l5)
          | (go_at_call 9; refine (IF.out _ _ F5.out).mono ?_; rintro e w6 ⟨rfl, hww⟩; have hw2 := hww.symm; clear hww; subst hw2))
        exact ⟨⟨k + 1, by omega, by go_num, L5⟩, by simp [intOf]; omega⟩
    · obtain rfl : k = n := by omega
      go_wp2
      go_ret
      exact ⟨rfl, HB.out⟩
end Go.Proofs.Ytbplmglddinkdaa.L
