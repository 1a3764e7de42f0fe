import Derived.Test.YtlhlpamciafocaaGreatDoorXH
import Derived.RangeFuncNested
import Derived.RangeFuncBound
import Derived.RangeFuncCalls
import Derived.RangeFuncLeaves
import Derived.Shelf.RegionOpen
import Derived.WalkKit
import Derived.WalkMore
import Derived.OwnWalkIn
import Derived.TacticsInMore
import Derived.LoopNIn
import Derived.LoopIn
import Derived.Deep.Cut
namespace Go.Proofs.YtlhlpamciafocaaGreatDoor.L
open Go.RowKit Go.Shelf
set_option linter.unusedVariables false
theorem txS_in (s : ByteArray) (f : Nat) : ∀ (n k : Nat) (l : List UInt8), s.size - k = n → k ≤ s.size → ∀ l' e, txS s f k l = .ok l' e → k < e ∧ e ≤ s.size := by
  intro n
  induction n using Nat.strongRecOn with
  | ind n ih =>
    intro k l hn hk l' e h
    by_cases hlt : k < s.size
    · by_cases c : bt s k = 34
      · rw [txS_q s f k l hlt c] at h
        split at h
        · exact TR.noConfusion h
        · obtain ⟨_, rfl⟩ := TR.ok.inj h
          omega
      · by_cases d : bt s k = 92
        · by_cases e0 : (esc3 s k).2 = 0
          · rw [txS_e0 s f k l hlt d e0] at h
            exact TR.noConfusion h
          · rw [txS_e s f k l hlt d e0] at h
            obtain ⟨g1, g2⟩ := esc_in e0
            have := ih (s.size - (k + (esc3 s k).2)) (by omega) (k + (esc3 s k).2) _ rfl g1 l' e h
            omega
        · by_cases e0 : iv (bt s k) < 32
          · rw [txS_low s f k l hlt c d e0] at h
            exact TR.noConfusion h
          · rw [txS_go s f k l hlt c d e0] at h
            have := ih (s.size - (k + 1)) (by omega) (k + 1) _ rfl (by omega) l' e h
            omega
    · rw [txS_end s f k l hlt] at h
      exact TR.noConfusion h
theorem mk2_size {s : ByteArray} {k : Nat} (h : mk2 (bt s k) (bt s (k + 1)) = true) : k + 2 ≤ s.size := by
  have : bt s (k + 1) ≠ 0 := by
    intro e
    rw [e] at h
    unfold mk2 at h
    revert h
    simp
  have := bt_nz this
  omega
theorem tok_in {s : ByteArray} {k : Nat} {t : Tok} (hk : k < s.size) (h : tokS s k = .ok t) : t.a = k ∧ k < t.e ∧ t.e ≤ s.size := by
  unfold tokS at h
  split at h
  · cases hx : txS s k (k + 1) [] with
    | bad c a => rw [hx] at h; exact RR.noConfusion h
    | ok l e =>
      rw [hx] at h
      have := RR.ok.inj h
      subst this
      have := txS_in s k _ (k + 1) [] rfl (by omega) l e hx
      exact ⟨rfl, by show k < e; omega, this.2⟩
  · split at h
    · unfold numTok at h
      obtain ⟨b1, b2⟩ := behW_in s _ (k + 1) rfl
      have b3 := b2 (by omega)
      split at h
      · exact RR.noConfusion h
      · have := RR.ok.inj h
        subst this
        exact ⟨rfl, by show k < behW s (k + 1); omega, b3⟩
    · split at h
      · rename_i hi
        have := RR.ok.inj h
        subst this
        have e1 : behW s k = behW s (k + 1) := behW_go s k hk hi
        obtain ⟨b1, b2⟩ := behW_in s _ (k + 1) rfl
        have b3 := b2 (by omega)
        exact ⟨rfl, by show k < behW s k; omega, by show behW s k ≤ s.size; omega⟩
      · unfold markS at h
        split at h
        · rename_i hm
          have := RR.ok.inj h
          subst this
          have := mk2_size hm
          exact ⟨rfl, by show k < k + 2; omega, this⟩
        · split at h
          · have := RR.ok.inj h
            subst this
            exact ⟨rfl, by show k < k + 1; omega, by show k + 1 ≤ s.size; omega⟩
          · exact RR.noConfusion h
/-- The end, as a token. -/
def tokE (n : Nat) : Tok := ⟨0, ⟨#[]⟩, 0, n, n⟩
/-- The tokens from k on, and the fault if one ends them. -/
def scanS (s : ByteArray) (k : Nat) : List Tok × Option (Nat × Nat) :=
  if h : gapS s k < s.size then
    match tokS s (gapS s k) with
    | .bad c a => ([], some (c, a))
    | .ok t => if g : k < t.e ∧ k < s.size then (t :: (scanS s t.e).1, (scanS s t.e).2) else ([], none)
  else ([tokE s.size], none)
termination_by s.size - k
decreasing_by all_goals omega
theorem scan_fin {s : ByteArray} {k : Nat} (h : ¬ gapS s k < s.size) : scanS s k = ([tokE s.size], none) := by
  rw [scanS, dif_neg h]
theorem scan_bad {s : ByteArray} {k c a : Nat} (h : gapS s k < s.size) (ht : tokS s (gapS s k) = .bad c a) : scanS s k = ([], some (c, a)) := by
  rw [scanS, dif_pos h, ht]
theorem gapS_ge (s : ByteArray) (k : Nat) : k ≤ gapS s k := by
  by_cases h : k ≤ s.size
  · exact (gapS_in s _ k rfl h).1
  · rw [gapS_end s k (by omega)]
    exact Nat.le_refl _
theorem scan_go {s : ByteArray} {k : Nat} {t : Tok} (h : gapS s k < s.size) (ht : tokS s (gapS s k) = .ok t) : scanS s k = (t :: (scanS s t.e).1, (scanS s t.e).2) := by
  have g := gapS_ge s k
  have := tok_in h ht
  rw [scanS, dif_pos h, ht]
  simp only []
  rw [dif_pos (by omega)]
theorem scan_gap {s : ByteArray} {k j : Nat} (h : gapS s k = gapS s j) : scanS s k = scanS s j := by
  by_cases hl : gapS s k < s.size
  · cases ht : tokS s (gapS s k) with
    | bad c a => exact (scan_bad hl ht).trans (scan_bad (s := s) (k := j) (by rw [← h]; exact hl) (by rw [← h]; exact ht)).symm
    | ok t => exact (scan_go hl ht).trans (scan_go (s := s) (k := j) (by rw [← h]; exact hl) (by rw [← h]; exact ht)).symm
  · exact (scan_fin hl).trans (scan_fin (s := s) (k := j) (by rw [← h]; exact hl)).symm
end Go.Proofs.YtlhlpamciafocaaGreatDoor.L
namespace Go.Proofs.YtlhlpamciafocaaGreatDoor.L
open Go.RowKit Go.Shelf
set_option linter.unusedVariables false
/-- What was laid since B lies as it lay. -/
structure Kp (B : Nat) (W W' : World) : Prop where
  size : W.heap.size ≤ W'.heap.size
  block : ∀ k, B ≤ k → k < W.heap.size → W'.heap[k]? = W.heap[k]?
theorem tcells {W : World} {b : Nat} {a c d e f : Value} {ty : TypeId} (h : W.heap[b]? = some (.cells #[a, c, d, e, f] ty (0, 0))) :
    W.cell? ⟨b, 0, none⟩ = some a ∧ W.cell? ⟨b, 1, none⟩ = some c ∧ W.cell? ⟨b, 2, none⟩ = some d ∧ W.cell? ⟨b, 3, none⟩ = some e ∧ W.cell? ⟨b, 4, none⟩ = some f := by
  refine ⟨?_, ?_, ?_, ?_, ?_⟩ <;> simp [World.cell?, h]
theorem pre_go {l pre r : List Tok} {t : Tok} (h : pre ++ t :: r = l) : pre ++ [t] <+: l := ⟨r, by rw [← h]; simp⟩
set_option maxHeartbeats 4000000 in
set_option maxRecDepth 100000 in
theorem walk_px (n : Nat) (hn : 1 ≤ n) (l : Nat) (s : ByteArray) (hs : s.size ≤ 4096) (J Jx : List Tok → World → Prop) (Jf : World → Prop) (hV : ∀ pre W, J pre W → Vars W)
    (hY : ∀ pre t W0 W, J pre W0 → Below W0.heap.size W0 W → pre ++ [t] <+: (scanS s 0).1 → YieldAt Fence.wide (n - 1) Tryz.prog l #[tv t, .nilIface] W fun e W' =>
      (e = .returned (.bool true) ∧ J (pre ++ [t]) W' ∧ Kp W0.heap.size W W') ∨ (e = .returned (.bool false) ∧ Jx (pre ++ [t]) W' ∧ Kp W0.heap.size W W'))
    (hF : ∀ N c a W0 W, J (scanS s 0).1 W0 → Below W0.heap.size W0 W → (scanS s 0).2 = some (c, a) → Flt W N c a → W0.heap.size ≤ N → YieldAt Fence.wide (n - 1) Tryz.prog l #[tv tok0, fv N] W fun e W' =>
      (∃ b, e = .returned (.bool b)) ∧ Jf W')
    (W : World) (h0 : J [] W) :
    CallsIn Fence.wide n Tryz.prog 52 #[.string s, .func (.yield l) #[] #[]] W fun e W' => (∃ v, e = .returned v) ∧
      ((J (scanS s 0).1 W' ∧ (scanS s 0).2 = none) ∨ (∃ pre, pre <+: (scanS s 0).1 ∧ Jx pre W') ∨ Jf W') := by
  have HY := hid hY
  have HF := hid hF
  have HV := hid hV
  have H0 := hid h0
  clear hY hF hV h0
  refine callsIn_wide.2 ?_
  go_enter Tryz.func52, Tryz.ntmps52
  go_wp2_with fail
  repeat (go_step3; go_wp2_with fail)
  go_loopw [4] (fun i wr => ∃ (k : Nat) (pre : List Tok), k ≤ s.size ∧ i = .int .i64 k ∧ Hid (pre ++ (scanS s k).1 = (scanS s 0).1) ∧ Hid ((scanS s k).2 = (scanS s 0).2) ∧ Hid (J pre wr)) (fun i _ => s.size - (intOf i).toNat)
  case atStart => exact ⟨0, [], Nat.zero_le _, rfl, rfl, rfl, H0⟩
  case round =>
    clear H0
    obtain ⟨k, pre, hk, rfl, HP, HE, HJ⟩ := hrel
    by_cases hend : k = s.size
    · subst hend
      have HS := hid (scan_fin (s := s) (k := s.size) (by rw [gapS_end s s.size (by omega)]; omega))
      rw [HS.out] at HP HE
      obtain ⟨fn, tmps, assign, body, hy, hR⟩ := HY.out pre (tokE s.size) wr wr HJ.out (Below.refl _ _) (pre_go HP.out)
      have HR := hid hR
      clear hR
      have hy2 : (Instr.yield l #[.agg #[.int .i64 0, .string ⟨#[]⟩, .int .i64 0, .int .i64 s.size, .int .i64 s.size], .nilIface]).run Tryz.prog wr = .ok (.round l fn tmps assign body) wr := hy
      clear hy
      go_upto_region 2 with fail
      refine (wpIn_wide (n := n)).1 ?_
      gi_wp2
      refine HR.out.mono ?_
      rintro e W2 (⟨rfl, hJ2, hk2⟩ | ⟨rfl, hJx2, hk2⟩)
      · have HJ2 := hid hJ2
        clear hJ2 hk2 HR hy2
        gi_wp2
        go_wp2_with fail
        simp only [Exit.noGoto]
        refine bodyPost_end (results_none rfl _ _ _) rfl ?_
        refine ⟨⟨_, rfl⟩, .inl ⟨?_, HE.out.symm⟩⟩
        rw [← HP.out]
        exact HJ2.out
      · have HJ2 := hid hJx2
        clear hJx2 hk2 HR hy2
        gi_wp2
        go_wp2_with fail
        simp only [Exit.noGoto]
        refine bodyPost_end (results_none rfl _ _ _) rfl ?_
        exact ⟨⟨_, rfl⟩, .inr (.inl ⟨_, pre_go HP.out, HJ2.out⟩)⟩
    · have hlt : k < s.size := by omega
      have hc := iv_get s k hlt
      obtain ⟨x, hx⟩ : ∃ x, iv (bt s k) = x := ⟨_, rfl⟩
      rw [hx] at hc
      have HB := hid (fun W => lblk_any x W)
      have hke : ((k : Int) == (s.size : Int)) = false := by simp; omega
      cases cb : blkB x
      · rw [cb] at HB
        by_cases c35 : x = 35
        · have i35 : bt s k = 35 := iv_eq (n := 35) hx c35 (by decide)
          have HG := hid (nlAt_gt s k hlt (by rw [i35]; decide))
          have HN := hid (nlAt_in s k hk)
          have HSC := hid (scan_gap (gapS_rem s k hlt i35))
          have HM := hid (fun W => remark_any s k W hs hlt)
          clear hx i35
          subst c35
          generalize nlAt s k = j at *
          go_wp2_with (first | (go_at_call 68; refine (HB.out _).mono ?_; rintro e w1 ⟨rfl, hww⟩; have hw2 := hww.symm; clear hww; subst hw2) | (go_at_call 69; refine (HM.out _).mono ?_; rintro e w1 ⟨rfl, hww⟩; have hw2 := hww.symm; clear hww; subst hw2))
          refine ⟨⟨j, pre, HN.out.2, rfl, ?_, ?_, HJ⟩, ?_⟩
          · rw [← HSC.out]; exact HP
          · rw [← HSC.out]; exact HE
          · have := HG.out
            simp [intOf]
            omega
        · have c35' : (x == 35) = false := by simpa using c35
          have n35 := iv_ne (n := 35) hx c35 (by decide)
          have HG := hid (gapS_no s k hlt n35 (by rw [hx]; exact cb))
          have HR := hid (fun W hv => read_any s k W hs hlt hv)
          have HV1 := hid (HV.out _ _ HJ.out)
          clear hx n35
          cases ht : tokS s k with
          | ok t =>
            have HSC := hid (scan_go (s := s) (k := k) (by rw [HG.out]; exact hlt) (by rw [HG.out]; exact ht))
            have hin := tok_in hlt ht
            rw [ht] at HR
            rw [HSC.out] at HP HE
            clear ht
            obtain ⟨kd, tx, nm, a, e⟩ := t
            have h3 : k = a := hin.1.symm
            have hin1 : k < e := hin.2.1
            have hin2 : e ≤ s.size := hin.2.2
            clear hin
            subst h3
            go_upto_region 8 with (first | (go_at_call 68; refine (HB.out _).mono ?_; rintro e w1 ⟨rfl, hww⟩; have hw2 := hww.symm; clear hww; subst hw2) | (go_at_call 70; refine (HR.out _ HV1.out).mono ?_; rintro x1 w1 ⟨rfl, l1⟩; unfold tv; have L1 := hid l1; clear l1))
            have hb0 := L1.out.size
            have BW := hid (L1.out.alloc hb0 (.cells #[.int .i64 kd, .string tx, .int .i64 nm, .int .i64 k, .int .i64 e] 80))
            have WT := hid (heap_alloc_new w1 (.cells #[.int .i64 kd, .string tx, .int .i64 nm, .int .i64 k, .int .i64 e] 80))
            have hbs : w1.heap.size < (w1.alloc (.cells #[.int .i64 kd, .string tx, .int .i64 nm, .int .i64 k, .int .i64 e] 80)).heap.size := by simp
            generalize w1.alloc (.cells #[.int .i64 kd, .string tx, .int .i64 nm, .int .i64 k, .int .i64 e] 80) = V at *
            generalize w1.heap.size = b at *
            obtain ⟨fn, tmps, assign, body, hy, hR⟩ := HY.out pre ⟨kd, tx, nm, k, e⟩ wr V HJ.out BW.out (pre_go HP.out)
            have HR := hid hR
            clear hR
            have hy2 : (Instr.yield l #[.agg #[.int .i64 kd, .string tx, .int .i64 nm, .int .i64 k, .int .i64 e], .nilIface]).run Tryz.prog V = .ok (.round l fn tmps assign body) V := hy
            clear hy
            have ⟨q0, q1, q2, q3, q4⟩ := tcells WT.out
            refine (wpIn_wide (n := n)).1 ?_
            gi_wp2
            refine HR.out.mono ?_
            rintro e1 W2 (⟨rfl, hJ2, hk2⟩ | ⟨rfl, hJx2, hk2⟩)
            · have HJ2 := hid hJ2
              have W2T := hid ((hk2.block b hb0 hbs).trans WT.out)
              clear q0 q1 q2 q3 q4
              have ⟨q0, q1, q2, q3, q4⟩ := tcells W2T.out
              clear hJ2 hk2 HR hy2
              gi_wp2
              go_wp2_with fail
              refine ⟨⟨e, pre ++ [⟨kd, tx, nm, k, e⟩], hin2, rfl, ?_, HE, HJ2⟩, ?_⟩
              · rw [List.append_assoc]; exact HP
              · simp [intOf]
                omega
            · have HJ2 := hid hJx2
              clear hJx2 hk2 HR hy2
              gi_wp2
              go_wp2_with fail
              simp only [Exit.noGoto]
              refine bodyPost_end (results_none rfl _ _ _) rfl ?_
              exact ⟨⟨_, rfl⟩, .inr (.inl ⟨_, pre_go HP.out, HJ2.out⟩)⟩
          | bad c a =>
            have HSC := hid (scan_bad (s := s) (k := k) (by rw [HG.out]; exact hlt) (by rw [HG.out]; exact ht))
            rw [ht] at HR
            rw [HSC.out] at HP HE
            clear ht
            rw [List.append_nil] at HP
            go_upto_region 8 with (first | (go_at_call 68; refine (HB.out _).mono ?_; rintro e w1 ⟨rfl, hww⟩; have hw2 := hww.symm; clear hww; subst hw2) | (go_at_call 70; refine (HR.out _ HV1.out).mono ?_; rintro x1 w1 ⟨N, rfl, f1, hN, l1⟩; unfold tv tok0 fv; have L1 := hid l1; have F1 := hid f1; clear l1 f1))
            have hb0 := L1.out.size
            have BW := hid (L1.out.alloc hb0 (.cells zcells 80))
            have WT := hid (heap_alloc_new w1 (.cells zcells 80))
            have F2 := hid (F1.out.low (belowA w1 (.cells zcells 80)) F1.out.lt)
            have hbs : w1.heap.size < (w1.alloc (.cells zcells 80)).heap.size := by simp
            unfold zcells at BW WT F2 hbs
            generalize w1.alloc (.cells #[.int .i64 0, .string ⟨#[]⟩, .int .i64 0, .int .i64 0, .int .i64 0] 80) = V at *
            generalize w1.heap.size = b at *
            obtain ⟨fn, tmps, assign, body, hy, hR⟩ := HF.out N c a wr V (by rw [← HP.out]; exact HJ.out) BW.out HE.out.symm F2.out hN
            have HR := hid hR
            clear hR
            have hy2 : (Instr.yield l #[.agg #[.int .i64 0, .string ⟨#[]⟩, .int .i64 0, .int .i64 0, .int .i64 0], .iface 60 (.pointer (some ⟨N, 0, none⟩))]).run Tryz.prog V = .ok (.round l fn tmps assign body) V := hy
            clear hy
            have ⟨q0, q1, q2, q3, q4⟩ := tcells WT.out
            refine (wpIn_wide (n := n)).1 ?_
            gi_wp2
            refine HR.out.mono ?_
            rintro e1 W2 ⟨⟨bb, rfl⟩, hJ2⟩
            have HJ2 := hid hJ2
            clear hJ2 HR hy2
            cases bb
            all_goals gi_wp2
            all_goals go_wp2_with fail
            all_goals simp only [Exit.noGoto]
            all_goals refine bodyPost_end (results_none rfl _ _ _) rfl ?_
            all_goals exact ⟨⟨_, rfl⟩, .inr (.inr HJ2.out)⟩
      · rw [cb] at HB
        have HSC := hid (scan_gap (gapS_blk s k hlt (by rw [hx]; exact cb)))
        clear hx
        go_wp2_with (go_at_call 68; refine (HB.out _).mono ?_; rintro e w1 ⟨rfl, hww⟩; have hw2 := hww.symm; clear hww; subst hw2)
        refine ⟨⟨k + 1, pre, by omega, by go_num, ?_, ?_, HJ⟩, ?_⟩
        · rw [← HSC.out]; exact HP
        · rw [← HSC.out]; exact HE
        · simp [intOf]
          omega
end Go.Proofs.YtlhlpamciafocaaGreatDoor.L
namespace Go.Proofs.YtlhlpamciafocaaGreatDoor.L
open Go.RowKit Go.Shelf
set_option linter.unusedVariables false
attribute [local go_sem] Oper.semAt_some
/-- What a source is, whatever its length. -/
def scanT (s : ByteArray) : List Tok × Option (Nat × Nat) := if s.size ≤ 4096 then scanS s 0 else ([], some (110, 4096))
/-- Each's func over the box X. -/
def eachB (X : Nat) : Value := .func (.func 50) #[] #[.pointer (some ⟨X, 0, none⟩)]
set_option maxHeartbeats 2000000 in
theorem each_any (s : ByteArray) (w : World) : Calls Tryz.prog 32 #[.string s] w fun e w' => e = .returned (eachB w.heap.size) ∧ w'.heap[w.heap.size]? = some (.cells #[.string s] 9 (0, 0)) ∧ Below w.heap.size w w' := by
  go_enter Tryz.func32, Tryz.ntmps32
  go_wp2_with fail
  go_ret
  exact ⟨rfl, heap_alloc_new w _, belowA w _⟩
set_option maxHeartbeats 4000000 in
set_option maxRecDepth 100000 in
theorem each_px (n : Nat) (hn : 1 ≤ n) (l X : Nat) (s : ByteArray) (J Jx : List Tok → World → Prop) (Jf : World → Prop) (hV : ∀ pre W, J pre W → Vars W)
    (hY : ∀ m pre t W0 W, J pre W0 → Below W0.heap.size W0 W → pre ++ [t] <+: (scanT s).1 → YieldAt Fence.wide m Tryz.prog l #[tv t, .nilIface] W fun e W' =>
      (e = .returned (.bool true) ∧ J (pre ++ [t]) W' ∧ Kp W0.heap.size W W') ∨ (e = .returned (.bool false) ∧ Jx (pre ++ [t]) W' ∧ Kp W0.heap.size W W'))
    (hF : ∀ m N c a W0 W, J (scanT s).1 W0 → Below W0.heap.size W0 W → (scanT s).2 = some (c, a) → Flt W N c a → W0.heap.size ≤ N → YieldAt Fence.wide m Tryz.prog l #[tv tok0, fv N] W fun e W' =>
      (∃ b, e = .returned (.bool b)) ∧ Jf W')
    (W : World) (hX : W.heap[X]? = some (.cells #[.string s] 9 (0, 0))) (h0 : J [] W) :
    CallsIn Fence.wide n Tryz.prog 50 #[.func (.yield l) #[] #[], .pointer (some ⟨X, 0, none⟩)] W fun e W' => (∃ v, e = .returned v) ∧
      ((J (scanT s).1 W' ∧ (scanT s).2 = none) ∨ (∃ pre, pre <+: (scanT s).1 ∧ Jx pre W') ∨ Jf W') := by
  have HY := hid hY
  have HF := hid hF
  have HV := hid hV
  have H0 := hid h0
  clear hY hF hV h0
  have q0 : W.cell? ⟨X, 0, none⟩ = some (.string s) := by simp [World.cell?, hX]
  by_cases hs : s.size ≤ 4096
  · have HT := hid (fun W => toolong_no s W hs)
    have e1 : scanT s = scanS s 0 := if_pos hs
    rw [e1] at HY HF ⊢
    have HW := hid ((callsIn_wide (n := n)).1 (walk_px n hn l s hs J Jx Jf HV.out (HY.out _) (HF.out _) W H0.out))
    refine callsIn_wide.2 ?_
    go_enter Tryz.func50, Tryz.ntmps50
    go_wp2_with (first | (go_at_call 51; refine (HT.out _).mono ?_; rintro e w1 ⟨rfl, hww⟩; have hw2 := hww.symm; clear hww; subst hw2) | (go_at_call 52; refine HW.out.mono ?_; rintro e w1 ⟨⟨v, rfl⟩, hr⟩; have HR := hid hr; clear hr))
    go_end0
    exact ⟨⟨_, rfl⟩, HR.out⟩
  · have e1 : scanT s = ([], some (110, 4096)) := if_neg hs
    rw [e1] at HF ⊢
    have HT := hid (fun W => toolong_yes s W (by omega))
    unfold fv at HT
    clear HY
    refine callsIn_wide.2 ?_
    go_enter Tryz.func50, Tryz.ntmps50
    go_upto_region 2 with (go_at_call 51; refine (HT.out _).mono ?_; rintro e w1 ⟨rfl, f1, l1⟩; have L1 := hid l1; have F1 := hid f1; clear l1 f1)
    obtain ⟨fn, tmps, assign, body, hy, hR⟩ := HF.out (n - 1) W.heap.size 110 4096 W w1 H0.out L1.out rfl F1.out (Nat.le_refl _)
    have HR := hid hR
    clear hR
    have hy2 : (Instr.yield l #[.agg #[.int .i64 0, .string ⟨#[]⟩, .int .i64 0, .int .i64 0, .int .i64 0], .iface 60 (.pointer (some ⟨W.heap.size, 0, none⟩))]).run Tryz.prog w1 = .ok (.round l fn tmps assign body) w1 := hy
    clear hy
    refine (wpIn_wide (n := n)).1 ?_
    gi_wp2
    refine HR.out.mono ?_
    rintro e1 W2 ⟨⟨bb, rfl⟩, hJ2⟩
    have HJ2 := hid hJ2
    clear hJ2 HR hy2
    gi_wp2
    go_wp2_with fail
    trace_state
    refine bodyPost_ret (results_none rfl _ _ _) rfl ?_
    exact ⟨⟨_, rfl⟩, .inr (.inr HJ2.out)⟩
end Go.Proofs.YtlhlpamciafocaaGreatDoor.L
