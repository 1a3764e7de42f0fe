import Derived.Test.YtkagdmhijjfnnabDoorAdd
namespace Go.Proofs.YtkagdmhijjfnnabDoor
open Go.RowKit Bs
/-- The slice v holds the numbers zs. -/
structure Holds (w : World) (v : Value) (zs : List Int) : Prop where
  ex : (v = .slice none 0 0 ∧ zs = []) ∨ ∃ b off cap, v = .slice (some ⟨b, off, none⟩) zs.length cap ∧ ∀ j, j < zs.length → w.cell? ⟨b, off + j, none⟩ = some (.int .i64 (zs.getD j 0))
theorem take_mem (zs : List Int) (k : Nat) (hk : k < zs.length) (x : Int) : x ∈ zs.take (k + 1) ↔ x ∈ zs.take k ∨ x = zs.getD k 0 := by
  rw [List.take_succ_eq_append_getElem hk, List.mem_append]
  simp [List.getD_eq_getElem?_getD, List.getElem?_eq_getElem hk]
theorem take_dec (zs : List Int) (k m z : Nat) (hk : k < zs.length) (hz : zs.getD k 0 = z) : (decide ((m : Int) ∈ zs.take k) || decide (m = z)) = decide ((m : Int) ∈ zs.take (k + 1)) := by
  rw [Bool.eq_iff_iff, Bool.or_eq_true, decide_eq_true_iff, decide_eq_true_iff, decide_eq_true_iff, take_mem zs k hk, hz]
  constructor
  · rintro (h | h)
    · exact Or.inl h
    · exact Or.inr (by omega)
  · rintro (h | h)
    · exact Or.inl h
    · exact Or.inr (by omega)
theorem mem_zero (k i : Nat) : mem (List.replicate k 0) i = false := tidy_zero k 0 i (Nat.zero_le _)
theorem getD_mem (zs : List Int) (k : Nat) (hk : k < zs.length) : zs.getD k 0 ∈ zs := by
  rw [List.getD_eq_getElem?_getD, List.getElem?_eq_getElem hk]; exact List.getElem_mem hk
set_option maxHeartbeats 1000000 in
theorem from_some (n b off cap : Nat) (zs : List Int) (w : World) (hn : n ≤ 65536) (hlen : zs.length ≤ 9223372036854775807) (hc : ∀ j, j < zs.length → w.cell? ⟨b, off + j, none⟩ = some (.int .i64 (zs.getD j 0))) (hz : ∀ z ∈ zs, 0 ≤ z ∧ z < n) :
    Calls Tryd.prog 37 #[.int .i64 n, .slice (some ⟨b, off, none⟩) zs.length cap] w fun e w' => e = .returned (.tuple #[.pointer (some ⟨w.heap.size + 1, 0, none⟩), .int .i64 0]) ∧
      (∃ ws, IsSet w' (w.heap.size + 1) w.heap.size n ws ∧ ∀ i, mem ws i = decide ((i : Int) ∈ zs)) ∧ Below w.heap.size w w' := by
  have HC : Hid (∀ j, j < zs.length → w.cell? ⟨b, off + j, none⟩ = some (.int .i64 (zs.getD j 0))) := hc
  have HZ : Hid (∀ z ∈ zs, 0 ≤ z ∧ z < n) := hz
  clear hc hz
  obtain ⟨L, hL⟩ : ∃ L, L = zs.length := ⟨_, rfl⟩
  have HL : Hid (L = zs.length) := hL
  rw [← hL] at hlen ⊢
  clear hL
  go_enter Tryd.func37, Tryd.ntmps37
  go_wp2_with (go_at_call 56; refine (new_ok n _ hn).mono ?_; rintro e w1 ⟨rfl, hs, hb⟩)
  go_loopw [20] (fun i wr => ∃ k : Nat, k ≤ L ∧ i = .int .i64 k ∧ (∃ ws, IsSet wr (w.heap.size + 1) w.heap.size n ws ∧ ∀ m, mem ws m = decide ((m : Int) ∈ zs.take k)) ∧ Below w.heap.size w wr) (fun i _ => L - (intOf i).toNat)
  case atStart => exact ⟨0, Nat.zero_le _, rfl, ⟨_, hs, fun m => by simp [mem_zero]⟩, hb⟩
  case round =>
    clear hs hb
    obtain ⟨k, hk, rfl, ⟨ws, hs, hmem⟩, hb⟩ := hrel
    by_cases hlt : k < L
    · have hlt' : k < zs.length := by rw [← HL.out]; exact hlt
      obtain ⟨z, hz⟩ : ∃ z : Nat, zs.getD k 0 = z := by
        have := (HZ.out (zs.getD k 0) (getD_mem zs k hlt')).1
        exact ⟨(zs.getD k 0).toNat, by omega⟩
      have hzn : z < n := by
        have := (HZ.out (zs.getD k 0) (getD_mem zs k hlt')).2
        omega
      have hcell := HC.out k hlt'
      have hcw : _ := (hb.cell (p := ⟨b, off + k, none⟩) (block_lt_of_cell hcell)).trans hcell
      rw [hz] at hcw
      have HZK : Hid (zs.getD k 0 = z) := hz
      have HM : Hid (∀ m, mem ws m = decide ((m : Int) ∈ zs.take k)) := hmem
      have HS : Hid (IsSet _ (w.heap.size + 1) w.heap.size n ws) := hs
      have hc0 := hs.c0
      clear hz hcell hmem hs hlt'
      go_wp2_with (first | (go_at_call 44; refine (inside_yes _ n z _ hc0 (by omega) (by omega)).mono ?_; rintro e w' ⟨rfl, rfl⟩) | (go_at_call 14; refine (add_in _ _ n z ws _ HS.out hzn).mono ?_; rintro e w2 ⟨rfl, ⟨ws2, hs2, hm2⟩, hg2⟩))
      go_roundw
      case rel =>
        refine ⟨k + 1, by omega, by go_num, ⟨ws2, hs2, fun m => ?_⟩, Chg.below hb hg2 (Nat.le_refl _) hb.size⟩
        rw [hm2, HM.out]
        exact take_dec zs k m z (by rw [← HL.out]; exact hlt) HZK.out
      case measure => simp [intOf]; omega
    · have hk' : k = L := by omega
      subst hk'
      have e : zs.take k = zs := by rw [HL.out]; exact List.take_length
      rw [e] at hmem
      go_wp2
      go_ret2
      exact ⟨rfl, ⟨ws, hs, hmem⟩, hb⟩
set_option maxHeartbeats 1000000 in
theorem from_none (n : Nat) (w : World) (hn : n ≤ 65536) :
    Calls Tryd.prog 37 #[.int .i64 n, .slice none 0 0] w fun e w' => e = .returned (.tuple #[.pointer (some ⟨w.heap.size + 1, 0, none⟩), .int .i64 0]) ∧
      (∃ ws, IsSet w' (w.heap.size + 1) w.heap.size n ws ∧ ∀ i, mem ws i = false) ∧ Below w.heap.size w w' := by
  go_enter Tryd.func37, Tryd.ntmps37
  go_wp2_with (go_at_call 56; refine (new_ok n _ hn).mono ?_; rintro e w1 ⟨rfl, hs, hb⟩)
  go_loopw [20] (fun i wr => i = .int .i64 0 ∧ wr = w1) (fun i _ => 0)
  case atStart => exact ⟨rfl, rfl⟩
  case round =>
    obtain ⟨rfl, rfl⟩ := hrel
    go_wp2
    go_ret2
    exact ⟨rfl, ⟨_, hs, fun i => mem_zero _ _⟩, hb⟩
/-- From, of places within the universe. -/
theorem from_any (n : Nat) (v : Value) (zs : List Int) (w : World) (hn : n ≤ 65536) (hlen : zs.length ≤ 9223372036854775807) (h : Holds w v zs) (hz : ∀ z ∈ zs, 0 ≤ z ∧ z < n) :
    Calls Tryd.prog 37 #[.int .i64 n, v] w fun e w' => e = .returned (.tuple #[.pointer (some ⟨w.heap.size + 1, 0, none⟩), .int .i64 0]) ∧
      (∃ ws, IsSet w' (w.heap.size + 1) w.heap.size n ws ∧ ∀ i, mem ws i = decide ((i : Int) ∈ zs)) ∧ Below w.heap.size w w' := by
  rcases h.ex with ⟨rfl, rfl⟩ | ⟨b, off, cap, rfl, hc⟩
  · refine (from_none n w hn).mono ?_
    rintro e w' ⟨rfl, ⟨ws, hs, hm⟩, hb⟩
    exact ⟨rfl, ⟨ws, hs, fun i => by rw [hm]; simp⟩, hb⟩
  · exact from_some n b off cap zs w hn hlen hc hz
end Go.Proofs.YtkagdmhijjfnnabDoor
