import Derived.Test.YtkagdmhijjfnnaaDoorMgAT
import Derived.RangeFuncNested
import Derived.RangeFuncBound
import Derived.RangeFuncCalls
import Derived.RangeFuncLeaves
import Derived.Shelf.Abstract
import Derived.Shelf.RegionOpen
import Derived.WalkKit
import Derived.OwnWalkIn
import Derived.TacticsInMore
import Derived.LoopNIn
import Derived.LoopIn
import Derived.Deep.Cut
import Derived.Test.YtkagdmhijjfnnaaDoorMgAN
namespace Go.Proofs.YtkagdmhijjfnnaaDoor
open Go.RowKit Bs
set_option linter.unusedVariables false
theorem words_ext {us vs : List Nat} (hl : us.length = vs.length) (hu : Wd us) (hv : Wd vs) (h : ∀ i, mem us i = mem vs i) : us = vs := by
  apply List.ext_getElem hl
  intro k h1 h2
  have e1 : us.getD k 0 = us[k] := by rw [List.getD_eq_getElem?_getD, List.getElem?_eq_getElem h1]; rfl
  have e2 : vs.getD k 0 = vs[k] := by rw [List.getD_eq_getElem?_getD, List.getElem?_eq_getElem h2]; rfl
  rw [← e1, ← e2]
  refine word_ext _ _ (hu.getD k) (hv.getD k) fun b hb => ?_
  rw [← mem_at us k b hb, ← mem_at vs k b hb]
  exact h _
theorem add_or (x r : Nat) (hx : x < 2 ^ r) : x + 2 ^ r = x ||| 2 ^ r := by
  have := Nat.two_pow_add_eq_or_of_lt hx 1
  rw [Nat.mul_one] at this
  rw [Nat.add_comm, this, Nat.or_comm]
/-- What stands while the document's words are reckoned. -/
structure Wz (w W : World) (n : Nat) (v : Value) (I : Nat) (us : List Nat) (ms : List Int) (t : Nat) : Prop where
  c0 : W.cell? ⟨w.heap.size, 0, none⟩ = some (.int .i64 (n : Int))
  c1 : W.cell? ⟨w.heap.size, 1, none⟩ = some v
  row : W.heap[I]? = some (.cells (row us) 59 (0, 0))
  len : us.length = nw n
  wd : Wd us
  is : ∀ j : Nat, mem us j = decide ((j : Int) ∈ ms.take t)
  lt : w.heap.size < I
  low : Below w.heap.size w W
theorem Wz.put {w W : World} {n : Nat} {v : Value} {I : Nat} {us : List Nat} {ms : List Int} {t z : Nat} (h : Wz w W n v I us ms t) (hu : Up ms) (ht : t < ms.length) (hz : ms.getD t 0 = (z : Int)) (hn : z < n) :
    us.getD (z / 64) 0 < 2 ^ (z % 64) ∧ Wz w (W.setCell ⟨I, z / 64, none⟩ (.int .u64 ((us.getD (z / 64) 0 + 2 ^ (z % 64) : Nat) : Int))) n v I (addW us z) ms (t + 1) := by
  have hk : z / 64 < us.length := by rw [h.len]; unfold nw; omega
  have hlt : us.getD (z / 64) 0 < 2 ^ (z % 64) := by
    refine Nat.lt_pow_two_of_testBit _ fun b hb => ?_
    by_cases hb64 : b < 64
    · rw [← mem_at us (z / 64) b hb64, h.is]
      refine decide_eq_false fun c => ?_
      obtain ⟨j, hj, e⟩ := mem_getD.1 c
      rw [List.length_take] at hj
      rw [List.getD_eq_getElem?_getD, List.getElem?_take, if_pos (by omega), ← List.getD_eq_getElem?_getD] at e
      have := hu.lt (j := j) (k := t) (by omega) ht
      omega
    · have := h.wd.getD (z / 64)
      exact Nat.testBit_lt_two_pow (Nat.lt_of_lt_of_le this (Nat.pow_le_pow_right (n := 2) (by decide) (show 64 ≤ b by omega)))
  refine ⟨hlt, ?_⟩
  have hlI := h.lt
  have hor := or_lt (us.getD (z / 64) 0) (2 ^ (z % 64)) (h.wd.getD _) (by have := (pow_lt64 (z % 64) (by omega)).1; omega)
  refine ⟨(cell_oth (by omega)).trans h.c0, (cell_oth (by omega)).trans h.c1, ?_, by unfold addW; rw [List.length_set]; exact h.len, h.wd.set _ _ hor, fun j => ?_, h.lt, below_st h.low _ _ _ (by omega)⟩
  · rw [heap_setCell_same W I _ _ _ _ h.row, add_or _ _ hlt, row_set]; rfl
  · rw [mem_addW us z hk j, h.is j]
    exact take_dec ms t j z ht hz
theorem Wz.drewd {w W : World} {n : Nat} {v : Value} {I : Nat} {us : List Nat} {ms : List Int} {t : Nat} (h : Wz w W n v I us ms t) : Wz w W.drew n v I us ms t :=
  ⟨h.c0, h.c1, h.row, h.len, h.wd, h.is, h.lt, belowT h.low (belowDr W)⟩
set_option maxRecDepth 100000 in
set_option maxHeartbeats 4000000 in
theorem dwords (n : Nat) (a : Option Addr) (cap : Nat) (ms : List Int) (w : World) (hn : n ≤ 65536) (h : Rd w a ms) (hu : Up ms) (hL : ms.length ≤ 65536) (hz : ∀ z ∈ ms, ∃ i : Nat, z = i ∧ i < n) :
    Calls Tryd.prog 89 #[.agg #[.int .i64 (n : Int), .slice a ms.length cap]] w fun e w' => ∃ g us, e = .returned (.slice (some ⟨g, 0, none⟩) (nw n) (nw n)) ∧ w'.heap[g]? = some (.cells (row us) 59 (0, 0)) ∧ us.length = nw n ∧ Wd us ∧ (∀ j : Nat, mem us j = decide ((j : Int) ∈ ms)) ∧ Below w.heap.size w w' := by
  have H := hid h
  have HU := hid hu
  have HZ := hid (fun t (ht : t < ms.length) => hz (ms.getD t 0) (mem_getD.2 ⟨t, ht, rfl⟩))
  clear h hu hz
  obtain ⟨L, hLe⟩ : ∃ L, L = ms.length := ⟨_, rfl⟩
  have HL := hid hLe
  rw [← hLe] at hL HZ ⊢
  clear hLe
  have hmk := make_words n hn (w.alloc (.cells #[.int .i64 (n : Int), .slice a L cap] 30))
  have hq : (n : Int) + 64 - 1 = (n : Int) + 63 := by omega
  rw [hq] at hmk
  have HB := hid (lowAlloc w (.cells #[.int .i64 (n : Int), .slice a L cap] 30))
  have HBX := Bx1.new w n a L cap
  go_enter Tryd.func89, Tryd.ntmps89
  go_wp2_with fail
  have Z0 := hid (show Wz w ((w.alloc (.cells #[.int .i64 (n : Int), .slice a L cap] 30)).alloc (.cells (row (List.replicate (nw n) 0)) 59)) n (.slice a L cap) (w.heap.size + 1) (List.replicate (nw n) 0) ms 0 from by
    have k := lowAlloc (w.alloc (.cells #[.int .i64 (n : Int), .slice a L cap] 30)) (.cells (row (List.replicate (nw n) 0)) 59)
    refine ⟨(HBX.on k).c0, (HBX.on k).c1, ?_, by simp, wd_zero _, fun j => by simp [mem_zero], Nat.lt_succ_self _, (HBX.on k).low⟩
    have := heap_alloc_new (w.alloc (.cells #[.int .i64 (n : Int), .slice a L cap] 30)) (.cells (row (List.replicate (nw n) 0)) 59)
    simpa using this)
  clear hmk hq HB HBX
  generalize (w.alloc _).alloc _ = V at *
  go_loopw [4] (fun x wr => ∃ (t : Nat) (us : List Nat), t ≤ L ∧ x = .int .i64 t ∧ Hid (Wz w wr n (.slice a L cap) (w.heap.size + 1) us ms t)) (fun x _ => L - (intOf x).toNat)
  case atStart => exact ⟨0, _, Nat.zero_le _, rfl, Z0⟩
  case round =>
    clear Z0
    obtain ⟨t, us, ht, rfl, HW⟩ := hrel
    have c0 := HW.out.c0
    have c1 := HW.out.c1
    by_cases hlt : t < L
    · have ht2 : t < ms.length := by rw [← HL.out]; exact hlt
      rcases H.out.low HW.out.low (Nat.le_refl _) with h0 | ⟨bl, off, rfl, hb, hc⟩
      · omega
      have hx := hc t ht2
      obtain ⟨z, ez, hzn⟩ := HZ.out t hlt
      rw [ez] at hx
      have P9 := HW.out.put HU.out ht2 ez hzn
      have hk : z / 64 < nw n := by unfold nw; omega
      have hcell : wr.cell? ⟨w.heap.size + 1, z / 64, none⟩ = some (.int .u64 ((us.getD (z / 64) 0 : Nat) : Int)) := by
        rw [cell_of_row _ _ _ _ _ _ HW.out.row, row_get us (z / 64) (by rw [HW.out.len]; exact hk)]
      have hfz : wr.frozen? ⟨w.heap.size + 1, z / 64, none⟩ = false := frozen_of_row _ _ _ _ _ HW.out.row
      have N9 := hid P9.2
      have hxl := P9.1
      have hp := pow_lt64 (z % 64) (by omega)
      have hd := idx_div z (by omega)
      have hmd := idx_mod z
      clear hc P9 ez
      have hcs : ((us.getD (z / 64) 0 + 2 ^ (z % 64) : Nat) : Int) = ((us.getD (z / 64) 0 : Nat) : Int) + ((2 ^ (z % 64) : Nat) : Int) := by omega
      rw [hcs] at N9
      generalize us.getD (z / 64) 0 = x at *
      have HP : Hid (∀ c, c ≤ z % 64 → 2 ^ c ≤ 9223372036854775808 ∧ 0 < 2 ^ c ∧ (2 * ((2 ^ c : Nat) : Int) = ((2 ^ (c + 1) : Nat) : Int))) := hid fun c hc => by
        have := pow_lt64 c (by omega)
        exact ⟨this.1, this.2, by rw [Nat.pow_succ]; omega⟩
      have hrlt : z % 64 < 64 := Nat.mod_lt _ (by decide)
      generalize hr : z % 64 = r at *
      generalize hkk : z / 64 = kk at *
      have hd' : (z : Int) / 64 = (kk : Int) := by omega
      go_wp2_with fail
      go_loopw [5, 6] (fun v b wr' => ∃ c : Nat, c ≤ r ∧ b = .int .i64 c ∧ v = .int .u64 ((2 ^ c : Nat) : Int) ∧ wr' = wr) (fun _ b _ => r - (intOf b).toNat)
      case atStart => exact ⟨0, Nat.zero_le _, rfl, rfl, rfl⟩
      case round =>
        obtain ⟨c, hc, rfl, rfl, hww⟩ := hrel
        subst hww
        obtain ⟨p1, p2, p3⟩ := HP.out c hc
        by_cases hcr : c < r
        · have hci : (c : Int) < (r : Int) := by omega
          have q1 := (HP.out (c + 1) (by omega)).1
          have HP3 := hid p3
          generalize hpc : 2 ^ c = pc at *
          generalize hpc2 : 2 ^ (c + 1) = pc2 at *
          have hwu : IntKind.u64.wrap (2 * (pc : Int)) = 2 * (pc : Int) := by rw [IntKind.wrap_u64]; omega
          go_wp2_with fail
          exact ⟨⟨c + 1, by omega, by go_num, by rw [hpc2, ← HP3.out], trivial⟩, by simp [intOf]; omega⟩
        · obtain rfl : c = r := by omega
          have hci : ¬ (c : Int) < (c : Int) := by omega
          generalize hpc : 2 ^ c = pc at *
          have hwu : IntKind.u64.wrap ((x : Int) + (pc : Int)) = (x : Int) + (pc : Int) := by rw [IntKind.wrap_u64]; omega
          have hki : (kk : Int) < ((nw n : Nat) : Int) := by omega
          go_wp2_with fail
          go_region
          go_wp2_with fail
          exact ⟨⟨t + 1, _, by omega, by go_num, hid N9.out.drewd⟩, by simp [intOf]; omega⟩
    · obtain rfl : t = L := by omega
      have X9 := hid HW.out
      go_wp2_with fail
      go_ret
      exact ⟨_, us, rfl, X9.out.row, X9.out.len, X9.out.wd, fun j => by rw [X9.out.is j, HL.out, List.take_length], X9.out.low⟩
end Go.Proofs.YtkagdmhijjfnnaaDoor
namespace Go.Proofs.YtkagdmhijjfnnaaDoor
open Go.RowKit Go.Shelf Bs
set_option linter.unusedVariables false
attribute [local go_sem] Oper.semAt_some
/-- All's func over the box X. -/
def allB (X : Nat) : Value := .func (.func 64) #[] #[.pointer (some ⟨X, 0, none⟩)]
set_option maxHeartbeats 4000000 in
theorem all_set (p q n : Nat) (S : Nat → Bool) (w : World) (h : SetAt w p q n S) : Calls Tryd.prog 38 #[.pointer (some ⟨p, 0, none⟩)] w fun e w' => ∃ X v g cap ws, e = .returned (allB X) ∧ w.heap.size ≤ X ∧ w.heap.size ≤ g ∧ g ≠ X ∧ w'.heap[X]? = some (.cells #[v] 35 (0, 0)) ∧ WSlice w' v g cap ws ∧ ws.length ≤ 1024 ∧ Wd ws ∧ MsOf n S (msL ws.length ws) ∧ Below w.heap.size w w' := by
  have hbd := h.bound
  obtain ⟨ws, x, hx⟩ := h
  have e : mem ws = S := funext hx
  subst e
  have BY := hid (words_any p q n ws w x)
  have hm : MsOf n (mem ws) (msL ws.length ws) := by
    refine ⟨?_, ?_⟩
    · rw [length_msL ws _ (Nat.le_refl _), isSet_card x]
    · intro t ht
      rw [length_msL ws _ (Nat.le_refl _)] at ht
      obtain ⟨i, h1, h2, h3⟩ := msL_get ws x.wd ws.length (Nat.le_refl _) t ht
      exact ⟨i, h1, hbd i h2, h2, h3⟩
  have HM := hid hm
  have HW := hid x.wd
  have HL := hid x.len
  clear x hx hm hbd
  generalize hQ : (fun (e : Ending) (w' : World) => ∃ X v g cap us, e = .returned (allB X) ∧ w.heap.size ≤ X ∧ w.heap.size ≤ g ∧ g ≠ X ∧ w'.heap[X]? = some (.cells #[v] 35 (0, 0)) ∧ WSlice w' v g cap us ∧ us.length ≤ 1024 ∧ Wd us ∧ MsOf n (mem ws) (msL us.length us) ∧ Below w.heap.size w w') = Q
  have HQ := hid hQ
  clear hQ
  go_enter Tryd.func38, Tryd.ntmps38
  go_wp2_with (go_at_call 35; refine BY.out.mono ?_
               rintro e w2 ⟨v, rfl, O2, B2⟩
               obtain ⟨e2, g2, c2⟩ := O2
               subst e2
               replace G2 := hid g2
               replace C2 := hid c2
               replace B2 := hid B2)
  rw [← HQ.out]
  refine ⟨w2.heap.size, _, w.heap.size, _, ws, rfl, B2.out.size, Nat.le_refl _, by have := G2.out; omega, heap_alloc_new w2 _, ⟨rfl, by have := G2.out; simp; omega, fun j hj => ?_⟩, HL.out, HW.out, HM.out, B2.out.alloc B2.out.size _⟩
  exact ((lowAlloc w2 _).cell (p := ⟨w.heap.size, j, none⟩) G2.out).trans (C2.out j hj)
/-- The blocks of L lie as they lay. -/
structure Md (L : List Nat) (W W' : World) : Prop where
  size : W.heap.size ≤ W'.heap.size
  block : ∀ k, k ∈ L → W'.heap[k]? = W.heap[k]?
theorem Md.trans {L : List Nat} {A B C : World} (h : Md L A B) (k : Md L B C) : Md L A C := ⟨Nat.le_trans h.size k.size, fun j hj => (k.block j hj).trans (h.block j hj)⟩
theorem Md.refl (L : List Nat) (W : World) : Md L W W := ⟨Nat.le_refl _, fun _ _ => rfl⟩
theorem Md.cell {L : List Nat} {W W' : World} (h : Md L W W') {p : Addr} (hp : p.block ∈ L) : W'.cell? p = W.cell? p := by
  unfold World.cell?
  rw [h.block _ hp]
/-- The words, their box and the table. -/
structure Wb (W : World) (X g : Nat) (v : Value) (ws : List Nat) : Prop where
  box : W.cell? ⟨X, 0, none⟩ = some v
  cw : ∀ j, j < ws.length → W.cell? ⟨g, j, none⟩ = some (.int .u64 ((ws.getD j 0 : Nat) : Int))
  tab : Tab W
theorem Wb.md {W W' : World} {X g : Nat} {v : Value} {ws : List Nat} (h : Wb W X g v ws) (k : Md [X, g, 0] W W') : Wb W' X g v ws :=
  ⟨(k.cell (p := ⟨X, 0, none⟩) (by simp)).trans h.box, fun j hj => (k.cell (p := ⟨g, j, none⟩) (by simp)).trans (h.cw j hj), fun j hj => (k.cell (p := ⟨0, j, none⟩) (by simp)).trans (h.tab j hj)⟩
theorem lows_pre (k x j : Nat) : ∀ d, lows k j x <+: lows k (j + d) x
  | 0 => List.prefix_refl _
  | d + 1 => (lows_pre k x j d).trans (List.prefix_append _ _)
theorem msL_pre (ws : List Nat) (k : Nat) : ∀ d, msL k ws <+: msL (k + d) ws
  | 0 => List.prefix_refl _
  | d + 1 => (msL_pre ws k d).trans (List.prefix_append _ _)
theorem part_pre (ws : List Nat) (k j x : Nat) (hk : k < ws.length) (hx : x = ws.getD k 0) (hj : j ≤ ones x) : msL k ws ++ lows k j x <+: msL ws.length ws := by
  obtain ⟨d, e⟩ : ∃ d, ones x = j + d := ⟨ones x - j, by omega⟩
  obtain ⟨d', e'⟩ : ∃ d', ws.length = (k + 1) + d' := ⟨ws.length - (k + 1), by omega⟩
  have h1 : msL k ws ++ lows k j x <+: msL (k + 1) ws := by
    rw [msL, ← hx, e]
    exact (List.prefix_append_right_inj _).2 (lows_pre k x j d)
  rw [e']
  exact h1.trans (msL_pre ws (k + 1) d')
set_option maxHeartbeats 4000000 in
set_option maxRecDepth 100000 in
theorem bit_px (n : Nat) (hn : 1 ≤ n) (l X g cap : Nat) (ws : List Nat) (hl : ws.length ≤ 1024) (wd : Wd ws) (J Jx : List Int → World → Prop)
    (hY : ∀ pre x W, J pre W → pre ++ [x] <+: msL ws.length ws → YieldAt Fence.wide (n - 1) Tryd.prog l #[.int .i64 x] W fun e W' =>
      (e = .returned (.bool true) ∧ J (pre ++ [x]) W' ∧ Md [X, g, 0] W W') ∨ (e = .returned (.bool false) ∧ Jx (pre ++ [x]) W'))
    (W : World) (hb : Wb W X g (.slice (some ⟨g, 0, none⟩) ws.length cap) ws) (h0 : J [] W) :
    CallsIn Fence.wide n Tryd.prog 64 #[.func (.yield l) #[] #[], .pointer (some ⟨X, 0, none⟩)] W fun e W' => (∃ v, e = .returned v) ∧
      (J (msL ws.length ws) W' ∨ (∃ pre, pre <+: msL ws.length ws ∧ Jx pre W')) := by
  have HW := hid hb
  have h1 := hb.box
  have HY := hid hY
  have H0 := hid h0
  have HWD := hid wd
  obtain ⟨N, hN⟩ : ∃ N, N = ws.length := ⟨_, rfl⟩
  rw [← hN] at h1 hl
  have HNN := hid hN
  clear hY h0 hN hb wd
  refine callsIn_wide.2 ?_
  go_enter Tryd.func64, Tryd.ntmps64
  go_wp2_with fail
  go_loopw [7] (fun i wr => ∃ k : Nat, k ≤ N ∧ i = .int .i64 k ∧ Hid (Wb wr X g (.slice (some ⟨g, 0, none⟩) N cap) ws) ∧ Hid (J (msL k ws) wr)) (fun i _ => N - (intOf i).toNat)
  case atStart => exact ⟨0, Nat.zero_le _, rfl, by rw [HNN.out]; exact HW, H0⟩
  case round =>
    clear h1 HW H0
    obtain ⟨k, hk, rfl, HW, HJ⟩ := hrel
    by_cases hlt : k < N
    · have hkl : k < ws.length := by rw [← HNN.out]; exact hlt
      have hx := HW.out.cw k hkl
      have h1 := HW.out.box
      obtain ⟨x, hxe⟩ : ∃ x, x = ws.getD k 0 := ⟨_, rfl⟩
      have hxb := HWD.out.getD k
      rw [← hxe] at hx hxb
      have HXB := hid hxb
      have HX := hid hxe
      have hol := ones_lt x
      have HO := hid (ones_any x wr hxb)
      obtain ⟨o, ho⟩ : ∃ o, o = ones x := ⟨_, rfl⟩
      rw [← ho] at HO hol
      have HOO := hid ho
      have HKL := hid hkl
      clear hxe hxb ho hkl
      go_wp2_with (go_at_call 57; refine HO.out.mono ?_; rintro e w2 ⟨rfl, hww⟩; subst hww)
      clear HO hx h1
      go_loopw [4, 16] (fun r t wr => ∃ j : Nat, j ≤ o ∧ t = .int .i64 j ∧ r = .int .u64 ((loN j x : Nat) : Int) ∧ Hid (Wb wr X g (.slice (some ⟨g, 0, none⟩) N cap) ws) ∧ Hid (J (msL k ws ++ lows k j x) wr)) (fun _ t _ => o - (intOf t).toNat)
      case atStart => exact ⟨0, Nat.zero_le _, rfl, rfl, HW, by rw [lows, List.append_nil]; exact HJ⟩
      case round =>
        clear HW HJ
        obtain ⟨j, hj, rfl, rfl, HW, HJ⟩ := hrel
        have hyb := loN_lt x HXB.out j
        have hsucc : msL k ws ++ lows k (j + 1) x = (msL k ws ++ lows k j x) ++ [((k * 64 + Lib.ctz 64 (loN j x) : Nat) : Int)] := by rw [lows, List.append_assoc]
        have hlo := lo_num (loN j x) hyb
        have HLO : Hid (loN (j + 1) x = lo (loN j x)) := rfl
        have hct := ctz_le (loN j x) hyb
        have HTZ := hid (fun W (h : Tab W) => tz_all (loN j x) W hyb h)
        obtain ⟨y, hy⟩ : ∃ y, y = loN j x := ⟨_, rfl⟩
        rw [← hy] at hsucc hlo HLO hct HTZ ⊢
        obtain ⟨z, hz⟩ : ∃ z, z = lo y := ⟨_, rfl⟩
        rw [← hz] at hlo HLO
        obtain ⟨t, htt⟩ : ∃ t, t = Lib.ctz 64 y := ⟨_, rfl⟩
        rw [← htt] at hsucc hct HTZ
        have HSUC := hid hsucc
        clear hyb hsucc hy hz htt
        by_cases hlt2 : j < o
        · have HP := hid (show (msL k ws ++ lows k j x) ++ [((k * 64 + t : Nat) : Int)] <+: msL ws.length ws by rw [← HSUC.out]; exact part_pre ws k (j + 1) x HKL.out HX.out (by rw [← HOO.out]; omega))
          obtain ⟨fn, tmps, assign, body, hy, hR⟩ := HY.out _ _ wr HJ.out HP.out
          have HR := hid hR
          have hy2 : (Instr.yield l #[.int .i64 ((k : Int) * 64 + (t : Int))]).run Tryd.prog wr = .ok (.round l fn tmps assign body) wr := by
            have e : ((k * 64 + t : Nat) : Int) = (k : Int) * 64 + (t : Int) := by omega
            rw [e] at hy
            exact hy
          clear hy hR
          have HTT := hid (HTZ.out wr HW.out.tab)
          clear HTZ
          go_upto_region 6 with fail
          refine (wpIn_wide (n := n)).1 ?_
          gi_wp2
          refine ⟨trivial, CallsIn.mono (callsIn_wide.2 HTT.out) ?_⟩
          rintro e w3 ⟨rfl, hww⟩
          subst hww
          gi_wp2
          refine HR.out.mono ?_
          rintro e W2 (⟨rfl, hJ2, hk2⟩ | ⟨rfl, hJx2⟩)
          · have HJ2 := hid (show J (msL k ws ++ lows k (j + 1) x) W2 by rw [HSUC.out]; exact hJ2)
            have H2 := hid (HW.out.md hk2)
            clear hJ2 hk2 HR hy2 HTT HW HJ
            gi_wp2
            go_wp2_with fail
            exact ⟨⟨j + 1, by omega, by go_num, by rw [HLO.out], H2, HJ2⟩, by simp [intOf]; omega⟩
          · have HXX := hid hJx2
            clear hJx2 HR hy2 HTT
            gi_wp2
            go_wp2_with fail
            refine bodyPost_ret (results_none rfl _ _ _) rfl ?_
            exact ⟨⟨_, rfl⟩, .inr ⟨_, HP.out, HXX.out⟩⟩
        · have e : j = o := by omega
          have HJ2 := hid (show J (msL (k + 1) ws) wr by
            have := HJ.out
            rw [e, HOO.out] at this
            rw [msL, ← HX.out]
            exact this)
          go_wp2_with fail
          exact ⟨⟨k + 1, by omega, by go_num, HW, HJ2⟩, by simp [intOf]; omega⟩
    · obtain rfl : k = N := by omega
      go_wp2_with fail
      go_end0
      exact ⟨⟨_, rfl⟩, .inl (by rw [← HNN.out]; exact HJ.out)⟩
end Go.Proofs.YtkagdmhijjfnnaaDoor
