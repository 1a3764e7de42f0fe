import Derived.RangeFuncNested
import Derived.RangeFuncBound
import Derived.RangeFuncCalls
import Derived.RangeFuncLeaves
import Derived.Shelf.Abstract
import Derived.Shelf.RegionOpen
import Derived.WalkKit
import Derived.OwnWalkIn
import Derived.TacticsInMore
import Derived.LoopNIn
import Derived.LoopIn
import Derived.Deep.Cut
import Derived.Test.YtdhjoimiejdgbabDoorSby
namespace Go.Proofs.YtdhjoimiejdgbabDoor.L
open Go.RowKit Go.Shelf
set_option linter.unusedVariables false
attribute [local go_sem] Oper.semAt_some
/-- A slot and its name. -/
abbrev Sn := Nat × ByteArray
def nmS (ss : List ByteArray) (j : Nat) : ByteArray := ss.getD j ByteArray.empty
/-- The slots in use, with their names, as far as k. -/
def tkK (ss : List ByteArray) : Nat → List Sn
  | 0 => []
  | k + 1 => tkK ss k ++ (if (nmS ss k).size = 0 then [] else [(k, nmS ss k)])
def tk (ss : List ByteArray) : List Sn := tkK ss ss.length
theorem tkK_pre (ss : List ByteArray) (k : Nat) : ∀ d, tkK ss k <+: tkK ss (k + d)
  | 0 => List.prefix_refl _
  | d + 1 => (tkK_pre ss k d).trans (List.prefix_append _ _)
theorem tkK_tk (ss : List ByteArray) {k : Nat} (h : k ≤ ss.length) : tkK ss k <+: tk ss := by
  obtain ⟨d, e⟩ : ∃ d, ss.length = k + d := ⟨ss.length - k, by omega⟩
  unfold tk
  rw [e]
  exact tkK_pre ss k d
structure Mid (m n₀ : Nat) (W W' : World) : Prop where
  size : W.heap.size ≤ W'.heap.size
  block : ∀ k, m ≤ k → k < n₀ → W'.heap[k]? = W.heap[k]?
theorem Mid.cell {m n₀ : Nat} {W W' : World} (h : Mid m n₀ W W') {p : Addr} (h1 : m ≤ p.block) (h2 : p.block < n₀) : W'.cell? p = W.cell? p := by
  unfold World.cell?
  rw [h.block _ h1 h2]
theorem Mid.trans {m n₀ : Nat} {A B C : World} (h : Mid m n₀ A B) (k : Mid m n₀ B C) : Mid m n₀ A C := ⟨Nat.le_trans h.size k.size, fun j h1 h2 => (k.block j h1 h2).trans (h.block j h1 h2)⟩
theorem Mid.refl (m n₀ : Nat) (W : World) : Mid m n₀ W W := ⟨Nat.le_refl _, fun _ _ _ => rfl⟩
theorem Mid.of {m n₀ N : Nat} {W W' : World} (h : Below N W W') (hN : n₀ ≤ N) : Mid m n₀ W W' := ⟨h.size, fun j _ h2 => h.block j (Nat.lt_of_lt_of_le h2 hN)⟩
/-- Texts in blocks between two marks. -/
def SlS (m n₀ : Nat) (W : World) (v : Value) (ss : List ByteArray) : Prop := ∃ a cap, v = .slice a ss.length cap ∧ (ss.length = 0 ∨ ∃ b, a = some ⟨b, 0, none⟩ ∧ m ≤ b ∧ b < n₀ ∧ ∀ j, j < ss.length → W.cell? ⟨b, j, none⟩ = some (.string (nmS ss j)))
theorem SlS.low {m n₀ : Nat} {W W' : World} {v : Value} {ss : List ByteArray} (h : SlS m n₀ W v ss) (hB : Mid m n₀ W W') : SlS m n₀ W' v ss := by
  obtain ⟨a, cap, rfl, h⟩ := h
  refine ⟨a, cap, rfl, ?_⟩
  rcases h with h | ⟨b, rfl, h1, h2, h⟩
  · exact Or.inl h
  · exact Or.inr ⟨b, rfl, h1, h2, fun j hj => (hB.cell (p := ⟨b, j, none⟩) h1 h2).trans (h j hj)⟩
theorem own_slS {W : World} {base n₀ : Nat} {v : Value} {ss : List ByteArray} (h : OwnS W base v ss) (hn : W.heap.size ≤ n₀) : SlS base n₀ W v ss := by
  rcases own_form h with ⟨rfl, h0⟩ | ⟨g, cap, rfl, _, _, hlt⟩
  · exact ⟨none, 0, by rw [h0], Or.inl h0⟩
  · refine ⟨_, cap, rfl, Or.inr ⟨g, rfl, (h.lt g rfl).1, Nat.lt_of_lt_of_le hlt hn, fun j hj => ?_⟩⟩
    refine ownS_cell h ?_
    unfold nmS
    rw [List.getElem?_map, List.getD_eq_getElem?_getD, List.getElem?_eq_getElem hj]
    rfl
def dv (x : Sn) : Array Value := #[.int .i64 (x.1 : Int), .string x.2]
set_option maxHeartbeats 4000000 in
set_option maxRecDepth 100000 in
theorem iter_in (n : Nat) (hn : 1 ≤ n) (l m0 n₀ X : Nat) (v : Value) (ss : List ByteArray) (hl : ss.length ≤ 65536) (J Jx : List Sn → World → Prop)
    (hJg : ∀ pre W W', J pre W → Below W.heap.size W W' → J pre W')
    (hY : ∀ pre x W, J pre W → pre.length < (tk ss).length → YieldAt Fence.wide (n - 1) Tryd.prog l (dv x) W fun e W' =>
      (e = .returned (.bool true) ∧ J (pre ++ [x]) W' ∧ Mid m0 n₀ W W') ∨ (e = .returned (.bool false) ∧ Jx (pre ++ [x]) W'))
    (W : World) (hnW : n₀ ≤ W.heap.size) (h1 : W.cell? ⟨X, 0, none⟩ = some v) (s1 : SlS m0 n₀ W v ss) (h0 : J [] W) :
    CallsIn Fence.wide n Tryd.prog 39 #[.func (.yield l) #[] #[], .pointer (some ⟨X, 0, none⟩)] W fun e W' => (∃ v, e = .returned v) ∧
      ((∃ ys, ys = tk ss ∧ J ys W') ∨ (∃ pre, pre <+: tk ss ∧ Jx pre W')) := by
  have S1 := hid s1
  obtain ⟨a1, c1, rfl, sx⟩ := s1
  clear sx
  have HY := hid hY
  have HJG := hid hJg
  have H0 := hid h0
  obtain ⟨N, hN⟩ : ∃ N, N = ss.length := ⟨_, rfl⟩
  rw [← hN] at h1 hl S1
  have HNN := hid hN
  clear hY hJg h0 hN
  refine callsIn_wide.2 ?_
  go_enter Tryd.func39, Tryd.ntmps39
  go_wp2_with fail
  go_loopw [7] (fun i wr => ∃ k : Nat, k ≤ N ∧ i = .int .i64 k ∧ Hid (n₀ ≤ wr.heap.size) ∧ Hid (SlS m0 n₀ wr (.slice a1 N c1) ss) ∧ Hid (J (tkK ss k) wr)) (fun i _ => N - (intOf i).toNat)
  case atStart => exact ⟨0, Nat.zero_le _, rfl, hid hnW, S1, H0⟩
  case round =>
    clear h1 S1 H0
    obtain ⟨k, hk, rfl, HN, H1, HJ⟩ := hrel
    by_cases hlt : k < N
    · have hkl : k < ss.length := by rw [← HNN.out]; exact hlt
      obtain ⟨a, cap, ev, hh⟩ := H1.out
      injection ev with ev ev2 ev3
      clear ev2
      subst ev ev3
      rcases hh with h0 | ⟨b, rfl, hb1, hb2, hc⟩
      · omega
      have hx := hc k hkl
      by_cases hs : (nmS ss k).size = 0
      · have es : nmS ss k = ⟨#[]⟩ := size_empty hs
        rw [es] at hx
        have HJ2 := hid (show J (tkK ss (k + 1)) wr by rw [tkK, if_pos hs, List.append_nil]; exact HJ.out)
        clear hc hs es
        go_wp2_with fail
        exact ⟨⟨k + 1, by omega, by go_num, HN, H1, HJ2⟩, by simp [intOf]; omega⟩
      · have es0 : ((nmS ss k).toList == []) = false := by rw [nil_size]; simpa using hs
        have es : ((nmS ss k).toList != []) = true := by simp [bne, es0]
        have en : ¬ (nmS ss k).toList = [] := fun e => by rw [e] at es0; cases es0
        have eE : (nmS ss k).toList.isEmpty = false := by
          cases h : (nmS ss k).toList with
          | nil => exact absurd h en
          | cons _ _ => rfl
        clear es0
        have ET := hid (show tkK ss (k + 1) = tkK ss k ++ [(k, nmS ss k)] by rw [tkK, if_neg hs])
        have HL := hid (show (tkK ss k).length < (tk ss).length by
          have := (tkK_tk ss (show k + 1 ≤ ss.length by omega)).length_le
          rw [ET.out, List.length_append] at this
          simp at this
          omega)
        have HP := hid (show tkK ss k ++ [(k, nmS ss k)] <+: tk ss by rw [← ET.out]; exact tkK_tk ss (show k + 1 ≤ ss.length by omega))
        obtain ⟨fn, tmps, assign, body, hy, hR⟩ := HY.out (tkK ss k) (k, nmS ss k) wr HJ.out HL.out
        have HR := hid hR
        have hy2 : (Instr.yield l #[.int .i64 (k : Int), .string (nmS ss k)]).run Tryd.prog wr = .ok (.round l fn tmps assign body) wr := hy
        generalize nmS ss k = s at *
        clear hc hs hy hR
        go_upto_region 3 with fail
        refine (wpIn_wide (n := n)).1 ?_
        gi_wp2
        refine HR.out.mono ?_
        rintro e W2 (⟨rfl, hJ2, hk2⟩ | ⟨rfl, hJx2⟩)
        · have LW := hid hk2
          have HN2 := hid (Nat.le_trans HN.out LW.out.size)
          have HJ2 := hid (show J (tkK ss (k + 1)) W2 by rw [ET.out]; exact hJ2)
          have H2 := hid (H1.out.low LW.out)
          clear hJ2 hk2 HR hy2
          gi_wp2
          go_wp2_with fail
          exact ⟨⟨k + 1, by omega, by go_num, HN2, H2, HJ2⟩, by simp [intOf]; omega⟩
        · have HX := hid hJx2
          clear hJx2 HR hy2
          gi_wp2
          go_wp2_with fail
          refine bodyPost_ret (results_none rfl _ _ _) rfl ?_
          exact ⟨⟨_, rfl⟩, .inr ⟨tkK ss k ++ [(k, s)], HP.out, HX.out⟩⟩
    · obtain rfl : k = N := by omega
      go_wp2
      go_end0
      exact ⟨⟨_, rfl⟩, .inl ⟨tkK ss k, by unfold tk; rw [← HNN.out], HJ.out⟩⟩
end Go.Proofs.YtdhjoimiejdgbabDoor.L
