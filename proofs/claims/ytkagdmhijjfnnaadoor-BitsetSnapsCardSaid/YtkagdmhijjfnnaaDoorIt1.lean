import Derived.RangeFuncNested
import Derived.RangeFuncBound
import Derived.RangeFuncCalls
import Derived.RangeFuncLeaves
import Derived.Shelf.Abstract
import Derived.Shelf.RegionOpen
import Derived.WalkKit
import Derived.OwnWalkIn
import Derived.TacticsInMore
import Derived.LoopNIn
import Derived.LoopIn
import Derived.Deep.Cut
import Derived.Test.YtkagdmhijjfnnaaDoorNl7
namespace Go.Proofs.YtkagdmhijjfnnaaDoor
open Go.RowKit Go.Shelf Bs
set_option linter.unusedVariables false
attribute [local go_sem] Oper.semAt_some
/-- All's func over the box X. -/
def allB (X : Nat) : Value := .func (.func 64) #[] #[.pointer (some ⟨X, 0, none⟩)]
set_option maxHeartbeats 4000000 in
theorem all_set (p q n : Nat) (S : Nat → Bool) (w : World) (h : SetAt w p q n S) : Calls Tryd.prog 38 #[.pointer (some ⟨p, 0, none⟩)] w fun e w' => ∃ X v g cap ws, e = .returned (allB X) ∧ w.heap.size ≤ X ∧ w.heap.size ≤ g ∧ g ≠ X ∧ w'.heap[X]? = some (.cells #[v] 35 (0, 0)) ∧ WSlice w' v g cap ws ∧ ws.length ≤ 1024 ∧ Wd ws ∧ MsOf n S (msL ws.length ws) ∧ Below w.heap.size w w' := by
  have hbd := h.bound
  obtain ⟨ws, x, hx⟩ := h
  have e : mem ws = S := funext hx
  subst e
  have BY := hid (words_any p q n ws w x)
  have hm : MsOf n (mem ws) (msL ws.length ws) := by
    refine ⟨?_, ?_⟩
    · rw [length_msL ws _ (Nat.le_refl _), isSet_card x]
    · intro t ht
      rw [length_msL ws _ (Nat.le_refl _)] at ht
      obtain ⟨i, h1, h2, h3⟩ := msL_get ws x.wd ws.length (Nat.le_refl _) t ht
      exact ⟨i, h1, hbd i h2, h2, h3⟩
  have HM := hid hm
  have HW := hid x.wd
  have HL := hid x.len
  clear x hx hm hbd
  generalize hQ : (fun (e : Ending) (w' : World) => ∃ X v g cap us, e = .returned (allB X) ∧ w.heap.size ≤ X ∧ w.heap.size ≤ g ∧ g ≠ X ∧ w'.heap[X]? = some (.cells #[v] 35 (0, 0)) ∧ WSlice w' v g cap us ∧ us.length ≤ 1024 ∧ Wd us ∧ MsOf n (mem ws) (msL us.length us) ∧ Below w.heap.size w w') = Q
  have HQ := hid hQ
  clear hQ
  go_enter Tryd.func38, Tryd.ntmps38
  go_wp2_with (go_at_call 35; refine BY.out.mono ?_
               rintro e w2 ⟨v, rfl, O2, B2⟩
               obtain ⟨e2, g2, c2⟩ := O2
               subst e2
               replace G2 := hid g2
               replace C2 := hid c2
               replace B2 := hid B2)
  rw [← HQ.out]
  refine ⟨w2.heap.size, _, w.heap.size, _, ws, rfl, B2.out.size, Nat.le_refl _, by have := G2.out; omega, heap_alloc_new w2 _, ⟨rfl, by have := G2.out; simp; omega, fun j hj => ?_⟩, HL.out, HW.out, HM.out, B2.out.alloc B2.out.size _⟩
  exact ((lowAlloc w2 _).cell (p := ⟨w.heap.size, j, none⟩) G2.out).trans (C2.out j hj)
/-- The blocks of L lie as they lay. -/
structure Md (L : List Nat) (W W' : World) : Prop where
  size : W.heap.size ≤ W'.heap.size
  block : ∀ k, k ∈ L → W'.heap[k]? = W.heap[k]?
theorem Md.trans {L : List Nat} {A B C : World} (h : Md L A B) (k : Md L B C) : Md L A C := ⟨Nat.le_trans h.size k.size, fun j hj => (k.block j hj).trans (h.block j hj)⟩
theorem Md.refl (L : List Nat) (W : World) : Md L W W := ⟨Nat.le_refl _, fun _ _ => rfl⟩
theorem Md.cell {L : List Nat} {W W' : World} (h : Md L W W') {p : Addr} (hp : p.block ∈ L) : W'.cell? p = W.cell? p := by
  unfold World.cell?
  rw [h.block _ hp]
/-- The words, their box and the table. -/
structure Wb (W : World) (X g : Nat) (v : Value) (ws : List Nat) : Prop where
  box : W.cell? ⟨X, 0, none⟩ = some v
  cw : ∀ j, j < ws.length → W.cell? ⟨g, j, none⟩ = some (.int .u64 ((ws.getD j 0 : Nat) : Int))
  tab : Tab W
theorem Wb.md {W W' : World} {X g : Nat} {v : Value} {ws : List Nat} (h : Wb W X g v ws) (k : Md [X, g, 0] W W') : Wb W' X g v ws :=
  ⟨(k.cell (p := ⟨X, 0, none⟩) (by simp)).trans h.box, fun j hj => (k.cell (p := ⟨g, j, none⟩) (by simp)).trans (h.cw j hj), fun j hj => (k.cell (p := ⟨0, j, none⟩) (by simp)).trans (h.tab j hj)⟩
theorem lows_pre (k x j : Nat) : ∀ d, lows k j x <+: lows k (j + d) x
  | 0 => List.prefix_refl _
  | d + 1 => (lows_pre k x j d).trans (List.prefix_append _ _)
theorem msL_pre (ws : List Nat) (k : Nat) : ∀ d, msL k ws <+: msL (k + d) ws
  | 0 => List.prefix_refl _
  | d + 1 => (msL_pre ws k d).trans (List.prefix_append _ _)
theorem part_pre (ws : List Nat) (k j x : Nat) (hk : k < ws.length) (hx : x = ws.getD k 0) (hj : j ≤ ones x) : msL k ws ++ lows k j x <+: msL ws.length ws := by
  obtain ⟨d, e⟩ : ∃ d, ones x = j + d := ⟨ones x - j, by omega⟩
  obtain ⟨d', e'⟩ : ∃ d', ws.length = (k + 1) + d' := ⟨ws.length - (k + 1), by omega⟩
  have h1 : msL k ws ++ lows k j x <+: msL (k + 1) ws := by
    rw [msL, ← hx, e]
    exact (List.prefix_append_right_inj _).2 (lows_pre k x j d)
  rw [e']
  exact h1.trans (msL_pre ws (k + 1) d')
set_option maxHeartbeats 4000000 in
set_option maxRecDepth 100000 in
theorem bit_px (n : Nat) (hn : 1 ≤ n) (l X g cap : Nat) (ws : List Nat) (hl : ws.length ≤ 1024) (wd : Wd ws) (J Jx : List Int → World → Prop)
    (hY : ∀ pre x W, J pre W → pre ++ [x] <+: msL ws.length ws → YieldAt Fence.wide (n - 1) Tryd.prog l #[.int .i64 x] W fun e W' =>
      (e = .returned (.bool true) ∧ J (pre ++ [x]) W' ∧ Md [X, g, 0] W W') ∨ (e = .returned (.bool false) ∧ Jx (pre ++ [x]) W'))
    (W : World) (hb : Wb W X g (.slice (some ⟨g, 0, none⟩) ws.length cap) ws) (h0 : J [] W) :
    CallsIn Fence.wide n Tryd.prog 64 #[.func (.yield l) #[] #[], .pointer (some ⟨X, 0, none⟩)] W fun e W' => (∃ v, e = .returned v) ∧
      (J (msL ws.length ws) W' ∨ (∃ pre, pre <+: msL ws.length ws ∧ Jx pre W')) := by
  have HW := hid hb
  have h1 := hb.box
  have HY := hid hY
  have H0 := hid h0
  have HWD := hid wd
  obtain ⟨N, hN⟩ : ∃ N, N = ws.length := ⟨_, rfl⟩
  rw [← hN] at h1 hl
  have HNN := hid hN
  clear hY h0 hN hb wd
  refine callsIn_wide.2 ?_
  go_enter Tryd.func64, Tryd.ntmps64
  go_wp2_with fail
  go_loopw [7] (fun i wr => ∃ k : Nat, k ≤ N ∧ i = .int .i64 k ∧ Hid (Wb wr X g (.slice (some ⟨g, 0, none⟩) N cap) ws) ∧ Hid (J (msL k ws) wr)) (fun i _ => N - (intOf i).toNat)
  case atStart => exact ⟨0, Nat.zero_le _, rfl, by rw [HNN.out]; exact HW, H0⟩
  case round =>
    clear h1 HW H0
    obtain ⟨k, hk, rfl, HW, HJ⟩ := hrel
    by_cases hlt : k < N
    · have hkl : k < ws.length := by rw [← HNN.out]; exact hlt
      have hx := HW.out.cw k hkl
      have h1 := HW.out.box
      obtain ⟨x, hxe⟩ : ∃ x, x = ws.getD k 0 := ⟨_, rfl⟩
      have hxb := HWD.out.getD k
      rw [← hxe] at hx hxb
      have HXB := hid hxb
      have HX := hid hxe
      have hol := ones_lt x
      have HO := hid (ones_any x wr hxb)
      obtain ⟨o, ho⟩ : ∃ o, o = ones x := ⟨_, rfl⟩
      rw [← ho] at HO hol
      have HOO := hid ho
      have HKL := hid hkl
      clear hxe hxb ho hkl
      go_wp2_with (go_at_call 57; refine HO.out.mono ?_; rintro e w2 ⟨rfl, hww⟩; subst hww)
      clear HO hx h1
      go_loopw [4, 16] (fun r t wr => ∃ j : Nat, j ≤ o ∧ t = .int .i64 j ∧ r = .int .u64 ((loN j x : Nat) : Int) ∧ Hid (Wb wr X g (.slice (some ⟨g, 0, none⟩) N cap) ws) ∧ Hid (J (msL k ws ++ lows k j x) wr)) (fun _ t _ => o - (intOf t).toNat)
      case atStart => exact ⟨0, Nat.zero_le _, rfl, rfl, HW, by rw [lows, List.append_nil]; exact HJ⟩
      case round =>
        clear HW HJ
        obtain ⟨j, hj, rfl, rfl, HW, HJ⟩ := hrel
        have hyb := loN_lt x HXB.out j
        have hsucc : msL k ws ++ lows k (j + 1) x = (msL k ws ++ lows k j x) ++ [((k * 64 + Lib.ctz 64 (loN j x) : Nat) : Int)] := by rw [lows, List.append_assoc]
        have hlo := lo_num (loN j x) hyb
        have HLO : Hid (loN (j + 1) x = lo (loN j x)) := rfl
        have hct := ctz_le (loN j x) hyb
        have HTZ := hid (fun W (h : Tab W) => tz_all (loN j x) W hyb h)
        obtain ⟨y, hy⟩ : ∃ y, y = loN j x := ⟨_, rfl⟩
        rw [← hy] at hsucc hlo HLO hct HTZ ⊢
        obtain ⟨z, hz⟩ : ∃ z, z = lo y := ⟨_, rfl⟩
        rw [← hz] at hlo HLO
        obtain ⟨t, htt⟩ : ∃ t, t = Lib.ctz 64 y := ⟨_, rfl⟩
        rw [← htt] at hsucc hct HTZ
        have HSUC := hid hsucc
        clear hyb hsucc hy hz htt
        by_cases hlt2 : j < o
        · have HP := hid (show (msL k ws ++ lows k j x) ++ [((k * 64 + t : Nat) : Int)] <+: msL ws.length ws by rw [← HSUC.out]; exact part_pre ws k (j + 1) x HKL.out HX.out (by rw [← HOO.out]; omega))
          obtain ⟨fn, tmps, assign, body, hy, hR⟩ := HY.out _ _ wr HJ.out HP.out
          have HR := hid hR
          have hy2 : (Instr.yield l #[.int .i64 ((k : Int) * 64 + (t : Int))]).run Tryd.prog wr = .ok (.round l fn tmps assign body) wr := by
            have e : ((k * 64 + t : Nat) : Int) = (k : Int) * 64 + (t : Int) := by omega
            rw [e] at hy
            exact hy
          clear hy hR
          have HTT := hid (HTZ.out wr HW.out.tab)
          clear HTZ
          go_upto_region 6 with fail
          refine (wpIn_wide (n := n)).1 ?_
          gi_wp2
          refine ⟨trivial, CallsIn.mono (callsIn_wide.2 HTT.out) ?_⟩
          rintro e w3 ⟨rfl, hww⟩
          subst hww
          gi_wp2
          refine HR.out.mono ?_
          rintro e W2 (⟨rfl, hJ2, hk2⟩ | ⟨rfl, hJx2⟩)
          · have HJ2 := hid (show J (msL k ws ++ lows k (j + 1) x) W2 by rw [HSUC.out]; exact hJ2)
            have H2 := hid (HW.out.md hk2)
            clear hJ2 hk2 HR hy2 HTT HW HJ
            gi_wp2
            go_wp2_with fail
            exact ⟨⟨j + 1, by omega, by go_num, by rw [HLO.out], H2, HJ2⟩, by simp [intOf]; omega⟩
          · have HXX := hid hJx2
            clear hJx2 HR hy2 HTT
            gi_wp2
            go_wp2_with fail
            refine bodyPost_ret (results_none rfl _ _ _) rfl ?_
            exact ⟨⟨_, rfl⟩, .inr ⟨_, HP.out, HXX.out⟩⟩
        · have e : j = o := by omega
          have HJ2 := hid (show J (msL (k + 1) ws) wr by
            have := HJ.out
            rw [e, HOO.out] at this
            rw [msL, ← HX.out]
            exact this)
          go_wp2_with fail
          exact ⟨⟨k + 1, by omega, by go_num, HW, HJ2⟩, by simp [intOf]; omega⟩
    · obtain rfl : k = N := by omega
      go_wp2_with fail
      go_end0
      exact ⟨⟨_, rfl⟩, .inl (by rw [← HNN.out]; exact HJ.out)⟩
end Go.Proofs.YtkagdmhijjfnnaaDoor
