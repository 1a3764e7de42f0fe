import Derived.Test.YtbplmglddinkdaaDoorXJ
namespace Go.Proofs.YtbplmglddinkdaaDoor.L
open Go.RowKit Go.Shelf
set_option linter.unusedVariables false
attribute [local go_sem] Oper.semAt_some
/-- What a source is, whatever its length. -/
def scanT (s : ByteArray) : List Tok × Option (Nat × Nat) := if s.size ≤ 4096 then scanS s 0 else ([], some (110, 4096))
/-- Each's func over the box X. -/
def eachB (X : Nat) : Value := .func (.func 22) #[] #[.pointer (some ⟨X, 0, none⟩)]
set_option maxHeartbeats 2000000 in
theorem each_any (s : ByteArray) (w : World) : Calls Tryd.prog 14 #[.string s] w fun e w' => e = .returned (eachB w.heap.size) ∧ w'.heap[w.heap.size]? = some (.cells #[.string s] 9 (0, 0)) ∧ Below w.heap.size w w' := by
  go_enter Tryd.func14, Tryd.ntmps14
  go_wp2_with fail
  go_ret
  exact ⟨rfl, heap_alloc_new w _, belowA w _⟩
set_option maxHeartbeats 4000000 in
set_option maxRecDepth 100000 in
theorem each_px (n : Nat) (hn : 1 ≤ n) (l X : Nat) (s : ByteArray) (J Jx : List Tok → World → Prop) (Jf : World → Prop) (hV : ∀ pre W, J pre W → Vars W)
    (hY : ∀ m pre t W0 W, J pre W0 → Below W0.heap.size W0 W → pre ++ [t] <+: (scanT s).1 → YieldAt Fence.wide m Tryd.prog l #[tv t, .nilIface] W fun e W' =>
      (e = .returned (.bool true) ∧ J (pre ++ [t]) W' ∧ Kp W0.heap.size W W') ∨ (e = .returned (.bool false) ∧ Jx (pre ++ [t]) W' ∧ Kp W0.heap.size W W'))
    (hF : ∀ m N c a W0 W, J (scanT s).1 W0 → Below W0.heap.size W0 W → (scanT s).2 = some (c, a) → Flt W N c a → W0.heap.size ≤ N → YieldAt Fence.wide m Tryd.prog l #[tv tok0, fv N] W fun e W' =>
      (∃ b, e = .returned (.bool b)) ∧ Jf W')
    (W : World) (hX : W.heap[X]? = some (.cells #[.string s] 9 (0, 0))) (h0 : J [] W) :
    CallsIn Fence.wide n Tryd.prog 22 #[.func (.yield l) #[] #[], .pointer (some ⟨X, 0, none⟩)] W fun e W' => (∃ v, e = .returned v) ∧
      ((J (scanT s).1 W' ∧ (scanT s).2 = none) ∨ (∃ pre, pre <+: (scanT s).1 ∧ Jx pre W') ∨ Jf W') := by
  have HY := hid hY
  have HF := hid hF
  have HV := hid hV
  have H0 := hid h0
  clear hY hF hV h0
  have q0 : W.cell? ⟨X, 0, none⟩ = some (.string s) := by simp [World.cell?, hX]
  by_cases hs : s.size ≤ 4096
  · have HT := hid (fun W => toolong_no s W hs)
    have e1 : scanT s = scanS s 0 := if_pos hs
    rw [e1] at HY HF ⊢
    have HW := hid ((callsIn_wide (n := n)).1 (walk_px n hn l s hs J Jx Jf HV.out (HY.out _) (HF.out _) W H0.out))
    refine callsIn_wide.2 ?_
    go_enter Tryd.func22, Tryd.ntmps22
    go_wp2_with (first | (go_at_call 23; refine (HT.out _).mono ?_; rintro e w1 ⟨rfl, hww⟩; have hw2 := hww.symm; clear hww; subst hw2) | (go_at_call 24; refine HW.out.mono ?_; rintro e w1 ⟨⟨v, rfl⟩, hr⟩; have HR := hid hr; clear hr))
    go_end0
    exact ⟨⟨_, rfl⟩, HR.out⟩
  · have e1 : scanT s = ([], some (110, 4096)) := if_neg hs
    rw [e1] at HF ⊢
    have HT := hid (fun W => toolong_yes s W (by omega))
    unfold fv at HT
    clear HY
    refine callsIn_wide.2 ?_
    go_enter Tryd.func22, Tryd.ntmps22
    go_upto_region 2 with (go_at_call 23; refine (HT.out _).mono ?_; rintro e w1 ⟨rfl, f1, l1⟩; have L1 := hid l1; have F1 := hid f1; clear l1 f1)
    obtain ⟨fn, tmps, assign, body, hy, hR⟩ := HF.out (n - 1) W.heap.size 110 4096 W w1 H0.out L1.out rfl F1.out (Nat.le_refl _)
    have HR := hid hR
    clear hR
    have hy2 : (Instr.yield l #[.agg #[.int .i64 0, .string ⟨#[]⟩, .int .i64 0, .int .i64 0, .int .i64 0], .iface 45 (.pointer (some ⟨W.heap.size, 0, none⟩))]).run Tryd.prog w1 = .ok (.round l fn tmps assign body) w1 := hy
    clear hy
    refine (wpIn_wide (n := n)).1 ?_
    gi_wp2
    refine HR.out.mono ?_
    rintro e1 W2 ⟨⟨bb, rfl⟩, hJ2⟩
    have HJ2 := hid hJ2
    clear hJ2 HR hy2
    gi_wp2
    go_wp2_with fail
    trace_state
    refine bodyPost_ret (results_none rfl _ _ _) rfl ?_
    exact ⟨⟨_, rfl⟩, .inr (.inr HJ2.out)⟩
end Go.Proofs.YtbplmglddinkdaaDoor.L
