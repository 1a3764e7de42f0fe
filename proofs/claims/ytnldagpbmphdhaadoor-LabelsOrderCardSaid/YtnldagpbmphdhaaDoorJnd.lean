import Derived.Test.YtnldagpbmphdhaaDoorTex
namespace Go.Proofs.YtnldagpbmphdhaaDoor.L
open Go.RowKit
set_option linter.unusedVariables false
def tB (l : List Lb) : ByteArray := ⟨(txt l).toArray⟩
theorem tB_data (l : List Lb) : (tB l).data.toList = txt l := by
  unfold tB
  simp
theorem tB_size (l : List Lb) : (tB l).size = (txt l).length := by
  have := congrArg List.length (tB_data l)
  simpa using this
theorem tB_snoc (l : List Lb) (x : Lb) : tB (l ++ [x]) = (if l = [] then (tB l) else tB l ++ ⟨#[44]⟩) ++ (x.1 ++ ⟨#[61]⟩ ++ x.2) := by
  apply Go.WideShapes.bytes_inj
  rw [tB_data, txt_snoc]
  by_cases h : l = []
  · subst h
    rw [if_pos rfl, if_pos rfl]
    simp [tB, txt, joinL]
  · rw [if_neg h, if_neg h]
    simp [tB]
set_option maxHeartbeats 8000000 in
set_option maxRecDepth 100000 in
theorem joined_any (v : Value) (l : List Lb) (w : World) (hi : Items w v l) (ho : OkL l) :
    Calls Tryd.prog 17 #[v] w fun e w' => e = .returned (.string ⟨(txt l).toArray⟩) ∧ Below w.heap.size w w' := by
  have HS := hid (show ∀ x ∈ l, x.1.size ≤ 127 ∧ x.2.size ≤ 63 from fun x hx => ⟨key_size (lab_ok (ho.lab x hx)).1, val_size (lab_ok (ho.lab x hx)).2⟩)
  obtain ⟨a, cap, rfl, hi⟩ := hi
  have hl := ho.len
  obtain ⟨len, hlen⟩ : ∃ n, n = l.length := ⟨_, rfl⟩
  have HLEN := hid hlen
  rw [← hlen] at hi hl ⊢
  clear hlen ho
  show Calls Tryd.prog 17 _ w fun e w' => e = .returned (.string (tB l)) ∧ Below w.heap.size w w'
  go_enter Tryd.func17, Tryd.ntmps17
  go_wp2
  go_loopw [3, 4] (fun s i wr => ∃ k : Nat, k ≤ len ∧ s = .string (tB (l.take k)) ∧ i = .int .i64 k ∧ Hid (Below w.heap.size w wr)) (fun _ i _ => len - (intOf i).toNat)
  case atStart => exact ⟨0, Nat.zero_le _, rfl, rfl, hid (Below.refl _ _)⟩
  case round =>
    obtain ⟨k, hk, rfl, rfl, HB⟩ := hrel
    by_cases hlt : k < len
    · rcases hi with h0 | ⟨b, off, rfl, hbl, hc⟩
      · omega
      obtain ⟨c0, c1⟩ := hc k hlt
      rw [← HB.out.cell (p := ⟨b, off + k * 2, none⟩) hbl] at c0
      rw [← HB.out.cell (p := ⟨b, off + k * 2 + 1, none⟩) hbl] at c1
      have hsz : b < wr.heap.size := Nat.lt_of_lt_of_le hbl HB.out.size
      have hkl : k < l.length := by rw [← HLEN.out]; exact hlt
      have hks := HS.out _ (kv_mem l k hkl)
      have hks1 : (ky l k).size ≤ 127 := hks.1
      have hks2 : (vl l k).size ≤ 63 := hks.2
      have hts : (tB (l.take k)).size ≤ 32 * 192 := by rw [tB_size]; exact Nat.le_trans (txt_len _ fun x hx => HS.out x (List.mem_of_mem_take hx)) (by rw [List.length_take]; omega)
      have hsn := tB_snoc (l.take k) (ky l k, vl l k)
      rw [← take_kv l k hkl] at hsn
      have g1 : (k : Int) < (len : Int) := by omega
      have g2 : (0 : Int) ≤ (k : Int) := by omega
      by_cases hk0 : k = 0
      · have hnil : l.take k = [] := by rw [hk0]; rfl
        rw [if_pos hnil] at hsn
        have hk0' : ¬ (0 : Int) < (k : Int) := by omega
        have HT := hid hsn
        generalize ky l k = key at *
        generalize vl l k = val at *
        generalize tB (l.take k) = T at *
        clear hc hsn hnil hk0 hks
        go_wp2_with fail
        go_quiet (fail)
        go_wp2_with fail
        exact ⟨⟨k + 1, by omega, by rw [HT.out], by go_num, hid (below_drewN HB.out nq)⟩, by simp [intOf]; omega⟩
      · have hnil : l.take k ≠ [] := by
          intro e
          have := congrArg List.length e
          rw [List.length_take, List.length_nil] at this
          omega
        rw [if_neg hnil] at hsn
        have hk0' : (0 : Int) < (k : Int) := by omega
        have HT := hid hsn
        generalize ky l k = key at *
        generalize vl l k = val at *
        generalize tB (l.take k) = T at *
        clear hc hsn hnil hk0 hks
        go_wp2_with fail
        go_quiet (fail)
        go_wp2_with fail
        exact ⟨⟨k + 1, by omega, by rw [HT.out], by go_num, hid (below_drewN HB.out nq)⟩, by simp [intOf]; omega⟩
    · obtain rfl : k = len := by omega
      have HT := hid (show tB (l.take k) = tB l by rw [HLEN.out, List.take_length])
      go_wp2
      go_ret
      exact ⟨by rw [← HT.out]; rfl, HB.out⟩
end Go.Proofs.YtnldagpbmphdhaaDoor.L
