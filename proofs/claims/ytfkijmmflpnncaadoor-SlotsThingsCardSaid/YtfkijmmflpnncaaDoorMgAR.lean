import Derived.Test.YtfkijmmflpnncaaDoorMgAH
import Derived.Test.YtfkijmmflpnncaaDoorMgAQ
import Derived.RangeFuncNested
import Derived.RangeFuncBound
import Derived.RangeFuncCalls
import Derived.RangeFuncLeaves
import Derived.Shelf.Abstract
import Derived.Shelf.RegionOpen
import Derived.WalkKit
import Derived.OwnWalkIn
import Derived.TacticsInMore
import Derived.LoopNIn
import Derived.LoopIn
import Derived.Deep.Cut
namespace Go.Proofs.YtfkijmmflpnncaaDoor.LS
open L
open Go.RowKit Bs Go.Maps
set_option linter.unusedVariables false
/-- The names by slot. -/
def bs (l : List Rw) : List ByteArray := l.map (·.1)
/-- As far as k. -/
def bsK (l : List Rw) (k : Nat) : List ByteArray := (List.range l.length).map fun j => if j < k then nm l j else ByteArray.empty
theorem bsK_len (l : List Rw) (k : Nat) : (bsK l k).length = l.length := by unfold bsK; simp
theorem bsK_all (l : List Rw) : bsK l l.length = bs l := by
  unfold bsK bs
  apply List.ext_getElem
  · simp
  · intro j h1 h2
    simp at h1
    simp [h1, nm_at h1]
theorem bsK_zero (l : List Rw) : bsK l 0 = List.replicate l.length ByteArray.empty := by
  unfold bsK
  apply List.ext_getElem
  · simp
  · intro j h1 h2; simp
theorem bsK_set (l : List Rw) (k : Nat) (h : k < l.length) : (bsK l k).set k (nm l k) = bsK l (k + 1) := by
  apply List.ext_getElem
  · simp [bsK_len]
  · intro j h1 h2
    rw [List.getElem_set]
    simp only [bsK, List.getElem_map, List.getElem_range]
    by_cases e : k = j
    · subst e; simp
    · by_cases h3 : j < k
      · simp [e, h3, show j < k + 1 by omega]
      · simp [e, h3, show ¬ j < k + 1 by omega]
set_option maxHeartbeats 4000000 in
set_option maxRecDepth 100000 in
theorem byslot_any (p m : Nat) (l : List Rw) (F : List Nat) (w : World) (h : Tb w p m l F) : Calls Tryd.prog 57 #[.pointer (some ⟨p, 0, none⟩)] w fun e w' => ∃ v, e = .returned v ∧ OwnS w' w.heap.size v (bs l) ∧ Below w.heap.size w w' := by
  obtain ⟨i0, hi0, hz0, hz1, hz2⟩ := info_parts infoS
  have SP := hid (span_any p m l F w h)
  have hle := Nat.le_trans h.ok.le h.ok.mm
  have HH := hid h
  have pl : p < w.heap.size := h.lt p h.mem
  obtain ⟨N, hN⟩ : ∃ N, N = l.length := ⟨_, rfl⟩
  rw [← hN] at SP hle
  have HN := hid hN
  clear h hN
  generalize hQ : (fun (e : Ending) (w' : World) => ∃ v, e = .returned v ∧ OwnS w' w.heap.size v (bs l) ∧ Below w.heap.size w w') = Q
  have HQ := hid hQ
  clear hQ
  go_enter Tryd.func57, Tryd.ntmps57
  go_wp2_with (first
    | (go_at_call 40; refine SP.out.mono ?_; rintro e w2 ⟨rfl, hww⟩; replace hww := hww.symm; subst hww)
    | (at_make; refine wpList_make_full _ rfl _ _ 61 rfl w.heap.size 9 i0 (.string ByteArray.empty) 1 Tryd.underlying61 hi0 hz0 hz1 .i64 .i64 (N : Int) (N : Int) N rfl rfl rfl rfl (by rw [hz2]; omega) (by unfold maxLen; omega) (Nat.le_refl _) ?_
       intro w3 hown3 hgrow3
       have O3 := hid (show OwnS w3 w.heap.size (.slice (some ⟨w.heap.size, 0, none⟩) N N) (bsK l 0) by
         show World.ownsRow _ _ _ _ _ _ _
         rw [bsK_len, bsK_zero, ← HN.out, ← made_empty]; exact hown3)
       have B3 := hid (grown_low hgrow3)
       clear hown3 hgrow3))
  go_loopw [10] (fun i wr => ∃ k : Nat, k ≤ N ∧ i = .int .i64 k ∧ Hid (OwnS wr w.heap.size (.slice (some ⟨w.heap.size, 0, none⟩) N N) (bsK l k)) ∧ Hid (Below w.heap.size w wr)) (fun i _ => N - (intOf i).toNat)
  case atStart => exact ⟨0, Nat.zero_le _, rfl, O3, B3⟩
  case round =>
    clear O3 B3
    obtain ⟨k, hk, rfl, OW, BW⟩ := hrel
    by_cases hlt : k < N
    · have hkl : k < l.length := by rw [← HN.out]; exact hlt
      have T := HH.out.low BW.out
      obtain ⟨mb, rs, ks, D, ws, h1, h2, _⟩ := T
      obtain ⟨g, cap, rfl, hg, r0, r1⟩ := h1.rows hkl
      have c2 := h1.c2
      have hcell : wr.cell? ⟨w.heap.size, k, none⟩ = some (.string ByteArray.empty) := by
        have o := OW.out
        unfold OwnS at o
        rw [bsK_len, ← HN.out] at o
        refine ownS_cell o ?_
        rw [List.getElem?_map]
        unfold bsK
        simp [hkl]
      have hfz : wr.frozen? ⟨w.heap.size, k, none⟩ = false := by
        have o := OW.out
        unfold OwnS at o
        rw [bsK_len, ← HN.out] at o
        exact own_fz o k
      have O4 := hid (show OwnS (wr.setCell ⟨w.heap.size, k, none⟩ (.string (nm l k))) w.heap.size (.slice (some ⟨w.heap.size, 0, none⟩) N N) (bsK l (k + 1)) by
        have o := OW.out
        unfold OwnS at o ⊢
        rw [bsK_len, ← HN.out] at o ⊢
        have := own_set o k (.string (nm l k))
        rw [← List.map_set, bsK_set l k hkl] at this
        exact this)
      have B4 := hid (BW.out.setCell (p := ⟨w.heap.size, k, none⟩) (Nat.le_refl _) (.string (nm l k)))
      rw [← HN.out] at c2
      generalize nm l k = s at *
      clear h1 h2 r1 OW BW HH
      go_wp2_with fail
      exact ⟨⟨k + 1, by omega, by go_num, O4, B4⟩, by simp [intOf]; omega⟩
    · obtain rfl : k = N := by omega
      go_wp2_with fail
      rw [← HQ.out]
      refine ⟨_, rfl, ?_, BW.out⟩
      have o := OW.out
      rw [HN.out, bsK_all] at o
      rw [HN.out]
      exact o
set_option maxRecDepth 100000 in
set_option maxHeartbeats 4000000 in
theorem byslot_nil (w : World) : Calls Tryd.prog 57 #[.pointer none] w fun e w' => ∃ v, e = .returned v ∧ OwnS w' w.heap.size v [] ∧ Below w.heap.size w w' := by
  obtain ⟨i0, hi0, hz0, hz1, hz2⟩ := info_parts infoS
  have SP := hid (span_nil w)
  generalize hQ : (fun (e : Ending) (w' : World) => ∃ v, e = .returned v ∧ OwnS w' w.heap.size v [] ∧ Below w.heap.size w w') = Q
  have HQ := hid hQ
  clear hQ
  go_enter Tryd.func57, Tryd.ntmps57
  go_wp2_with (first
    | (go_at_call 40; refine SP.out.mono ?_; rintro e w2 ⟨rfl, hww⟩; replace hww := hww.symm; subst hww)
    | (at_make; refine wpList_make_full _ rfl _ _ 61 rfl w.heap.size 9 i0 (.string ByteArray.empty) 1 Tryd.underlying61 hi0 hz0 hz1 .i64 .i64 0 0 0 rfl rfl rfl rfl (Nat.zero_le _) (Nat.zero_le _) (Nat.le_refl _) ?_
       intro w3 hown3 hgrow3
       have O3 := hid (show OwnS w3 w.heap.size (.slice (some ⟨w.heap.size, 0, none⟩) 0 0) [] by rw [made_empty] at hown3; exact hown3)
       have B3 := hid (grown_low hgrow3)
       clear hown3 hgrow3))
  go_loopw [10] (fun i wr => i = .int .i64 0 ∧ Hid (wr = w3)) (fun _ _ => 0)
  case atStart => exact ⟨rfl, hid rfl⟩
  case round =>
    obtain ⟨rfl, HB⟩ := hrel
    have hwr := HB.out.symm
    subst hwr
    go_wp2_with fail
    rw [← HQ.out]
    exact ⟨_, rfl, O3.out, B3.out⟩
/-- What All answers. -/
def allF (X : Nat) : Value := .func (.func 58) #[] #[.pointer (some ⟨X, 0, none⟩)]
set_option maxHeartbeats 4000000 in
theorem all_any (p m : Nat) (l : List Rw) (F : List Nat) (w : World) (h : Tb w p m l F) : Calls Tryd.prog 46 #[.pointer (some ⟨p, 0, none⟩)] w fun e w' => ∃ X v, e = .returned (allF X) ∧ w.heap.size ≤ X ∧ w'.heap[X]? = some (.cells #[v] 61 (0, 0)) ∧ OwnS w' w.heap.size v (bs l) ∧ Below w.heap.size w w' := by
  have BY := hid (byslot_any p m l F w h)
  clear h
  generalize hQ : (fun (e : Ending) (w' : World) => ∃ X v, e = .returned (allF X) ∧ w.heap.size ≤ X ∧ w'.heap[X]? = some (.cells #[v] 61 (0, 0)) ∧ OwnS w' w.heap.size v (bs l) ∧ Below w.heap.size w w') = Q
  have HQ := hid hQ
  clear hQ
  go_enter Tryd.func46, Tryd.ntmps46
  go_wp2_with (go_at_call 57; refine BY.out.mono ?_
               rintro e w2 ⟨v, rfl, O2, B2⟩
               obtain ⟨a2, c2, e2⟩ := own_len O2
               subst e2
               replace O2 := hid O2
               replace B2 := hid B2)
  rw [← HQ.out]
  refine ⟨w2.heap.size, .slice a2 (bs l).length c2, rfl, B2.out.size, ?_, ?_, ?_⟩
  · exact (MapKept.heap_alloc _ _).1
  · exact O2.out.alloc _
  · exact B2.out.alloc B2.out.size _
set_option maxHeartbeats 4000000 in
theorem all_nil (w : World) : Calls Tryd.prog 46 #[.pointer none] w fun e w' => ∃ X v, e = .returned (allF X) ∧ w.heap.size ≤ X ∧ w'.heap[X]? = some (.cells #[v] 61 (0, 0)) ∧ OwnS w' w.heap.size v [] ∧ Below w.heap.size w w' := by
  have BY := hid (byslot_nil w)
  generalize hQ : (fun (e : Ending) (w' : World) => ∃ X v, e = .returned (allF X) ∧ w.heap.size ≤ X ∧ w'.heap[X]? = some (.cells #[v] 61 (0, 0)) ∧ OwnS w' w.heap.size v [] ∧ Below w.heap.size w w') = Q
  have HQ := hid hQ
  clear hQ
  go_enter Tryd.func46, Tryd.ntmps46
  go_wp2_with (go_at_call 57; refine BY.out.mono ?_
               rintro e w2 ⟨v, rfl, O2, B2⟩
               obtain ⟨a2, c2, e2⟩ := own_len O2
               subst e2
               replace O2 := hid O2
               replace B2 := hid B2)
  rw [← HQ.out]
  refine ⟨w2.heap.size, .slice a2 0 c2, rfl, B2.out.size, ?_, ?_, ?_⟩
  · exact (MapKept.heap_alloc _ _).1
  · exact O2.out.alloc _
  · exact B2.out.alloc B2.out.size _
end Go.Proofs.YtfkijmmflpnncaaDoor.LS
namespace Go.Proofs.YtfkijmmflpnncaaDoor.LS
open L
open Go.RowKit Go.Shelf
set_option linter.unusedVariables false
attribute [local go_sem] Oper.semAt_some
set_option maxHeartbeats 4000000 in
set_option maxRecDepth 100000 in
theorem iter_in (n : Nat) (hn : 1 ≤ n) (l m0 n₀ X : Nat) (v : Value) (ss : List ByteArray) (hl : ss.length ≤ 65536) (J Jx : List Sn → World → Prop)
    (hJg : ∀ pre W W', J pre W → Below W.heap.size W W' → J pre W')
    (hY : ∀ pre x W, J pre W → pre.length < (tk ss).length → YieldAt Fence.wide (n - 1) Tryd.prog l (dv x) W fun e W' =>
      (e = .returned (.bool true) ∧ J (pre ++ [x]) W' ∧ Mid m0 n₀ W W') ∨ (e = .returned (.bool false) ∧ Jx (pre ++ [x]) W'))
    (W : World) (hnW : n₀ ≤ W.heap.size) (h1 : W.cell? ⟨X, 0, none⟩ = some v) (s1 : SlS m0 n₀ W v ss) (h0 : J [] W) :
    CallsIn Fence.wide n Tryd.prog 58 #[.func (.yield l) #[] #[], .pointer (some ⟨X, 0, none⟩)] W fun e W' => (∃ v, e = .returned v) ∧
      ((∃ ys, ys = tk ss ∧ J ys W') ∨ (∃ pre, pre <+: tk ss ∧ Jx pre W')) := by
  have S1 := hid s1
  obtain ⟨a1, c1, rfl, sx⟩ := s1
  clear sx
  have HY := hid hY
  have HJG := hid hJg
  have H0 := hid h0
  obtain ⟨N, hN⟩ : ∃ N, N = ss.length := ⟨_, rfl⟩
  rw [← hN] at h1 hl S1
  have HNN := hid hN
  clear hY hJg h0 hN
  refine callsIn_wide.2 ?_
  go_enter Tryd.func58, Tryd.ntmps58
  go_wp2_with fail
  go_loopw [7] (fun i wr => ∃ k : Nat, k ≤ N ∧ i = .int .i64 k ∧ Hid (n₀ ≤ wr.heap.size) ∧ Hid (SlS m0 n₀ wr (.slice a1 N c1) ss) ∧ Hid (J (tkK ss k) wr)) (fun i _ => N - (intOf i).toNat)
  case atStart => exact ⟨0, Nat.zero_le _, rfl, hid hnW, S1, H0⟩
  case round =>
    clear h1 S1 H0
    obtain ⟨k, hk, rfl, HN, H1, HJ⟩ := hrel
    by_cases hlt : k < N
    · have hkl : k < ss.length := by rw [← HNN.out]; exact hlt
      obtain ⟨a, cap, ev, hh⟩ := H1.out
      injection ev with ev ev2 ev3
      clear ev2
      subst ev ev3
      rcases hh with h0 | ⟨b, rfl, hb1, hb2, hc⟩
      · omega
      have hx := hc k hkl
      by_cases hs : (nmS ss k).size = 0
      · have es : nmS ss k = ⟨#[]⟩ := size_empty hs
        rw [es] at hx
        have HJ2 := hid (show J (tkK ss (k + 1)) wr by rw [tkK, if_pos hs, List.append_nil]; exact HJ.out)
        clear hc hs es
        go_wp2_with fail
        exact ⟨⟨k + 1, by omega, by go_num, HN, H1, HJ2⟩, by simp [intOf]; omega⟩
      · have es0 : ((nmS ss k).toList == []) = false := by rw [nil_size]; simpa using hs
        have es : ((nmS ss k).toList != []) = true := by simp [bne, es0]
        have en : ¬ (nmS ss k).toList = [] := fun e => by rw [e] at es0; cases es0
        have eE : (nmS ss k).toList.isEmpty = false := by
          cases h : (nmS ss k).toList with
          | nil => exact absurd h en
          | cons _ _ => rfl
        clear es0
        have ET := hid (show tkK ss (k + 1) = tkK ss k ++ [(k, nmS ss k)] by rw [tkK, if_neg hs])
        have HL := hid (show (tkK ss k).length < (tk ss).length by
          have := (tkK_tk ss (show k + 1 ≤ ss.length by omega)).length_le
          rw [ET.out, List.length_append] at this
          simp at this
          omega)
        have HP := hid (show tkK ss k ++ [(k, nmS ss k)] <+: tk ss by rw [← ET.out]; exact tkK_tk ss (show k + 1 ≤ ss.length by omega))
        obtain ⟨fn, tmps, assign, body, hy, hR⟩ := HY.out (tkK ss k) (k, nmS ss k) wr HJ.out HL.out
        have HR := hid hR
        have hy2 : (Instr.yield l #[.int .i64 (k : Int), .string (nmS ss k)]).run Tryd.prog wr = .ok (.round l fn tmps assign body) wr := hy
        generalize nmS ss k = s at *
        clear hc hs hy hR
        go_upto_region 3 with fail
        refine (wpIn_wide (n := n)).1 ?_
        gi_wp2
        refine HR.out.mono ?_
        rintro e W2 (⟨rfl, hJ2, hk2⟩ | ⟨rfl, hJx2⟩)
        · have LW := hid hk2
          have HN2 := hid (Nat.le_trans HN.out LW.out.size)
          have HJ2 := hid (show J (tkK ss (k + 1)) W2 by rw [ET.out]; exact hJ2)
          have H2 := hid (H1.out.low LW.out)
          clear hJ2 hk2 HR hy2
          gi_wp2
          go_wp2_with fail
          exact ⟨⟨k + 1, by omega, by go_num, HN2, H2, HJ2⟩, by simp [intOf]; omega⟩
        · have HX := hid hJx2
          clear hJx2 HR hy2
          gi_wp2
          go_wp2_with fail
          refine bodyPost_ret (results_none rfl _ _ _) rfl ?_
          exact ⟨⟨_, rfl⟩, .inr ⟨tkK ss k ++ [(k, s)], HP.out, HX.out⟩⟩
    · obtain rfl : k = N := by omega
      go_wp2
      go_end0
      exact ⟨⟨_, rfl⟩, .inl ⟨tkK ss k, by unfold tk; rw [← HNN.out], HJ.out⟩⟩
end Go.Proofs.YtfkijmmflpnncaaDoor.LS
