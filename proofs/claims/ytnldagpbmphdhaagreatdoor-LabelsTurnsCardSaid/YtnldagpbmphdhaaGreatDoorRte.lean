import Derived.Test.YtnldagpbmphdhaaGreatDoorRck
import Derived.Test.YtnldagpbmphdhaaGreatDoorCkk
import Derived.Test.YtnldagpbmphdhaaGreatDoorTex
namespace Go.Proofs.YtnldagpbmphdhaaGreatDoor.L
open Go.RowKit
set_option linter.unusedVariables false
set_option maxHeartbeats 4000000 in
theorem text_no (v : Value) (l : List Lb) (w : World) (hi : Items w v l) (hg : Good l) (ho : (checkN l).2 ≠ 0) :
    Calls Tryz.prog 53 #[v] w fun e w' => e = .returned (.tuple #[.string ByteArray.empty, .int .i64 (checkN l).2]) ∧ Below w.heap.size w w' := by
  have HC := hid (check_any v l w hi hg)
  have hne : ((checkN l).2 != 0) = true := by simpa using ho
  generalize checkN l = r at *
  clear ho
  go_enter Tryz.func53, Tryz.ntmps53
  go_wp2_with fail
  refine HC.out.mono ?_
  rintro e w1 ⟨rfl, hb⟩
  have B1 := hid hb
  clear hb
  go_wp2_with fail
  go_ret2
  exact ⟨rfl, B1.out⟩
set_option maxHeartbeats 4000000 in
theorem rtext_no (v : Value) (l : List Lb) (w : World) (hi : Items w v l) (hg : Good l) (ho : (checkN l).2 ≠ 0) :
    Calls Tryz.prog 54 #[v] w fun e w' => e = .returned (.tuple #[.string ByteArray.empty, .int .i64 (checkN l).2]) ∧ Below w.heap.size w w' := by
  have HC := hid (rcheck_any v l w hi hg)
  have hne : ((checkN l).2 != 0) = true := by simpa using ho
  generalize checkN l = r at *
  clear ho
  go_enter Tryz.func54, Tryz.ntmps54
  go_wp2_with fail
  refine HC.out.mono ?_
  rintro e w1 ⟨rfl, hb⟩
  have B1 := hid hb
  clear hb
  go_wp2_with fail
  go_ret2
  exact ⟨rfl, B1.out⟩
def tb (l : List Lb) : ByteArray := ⟨(txt l).toArray⟩
theorem app_data (a b : ByteArray) : (a ++ b).data.toList = a.data.toList ++ b.data.toList := by simp
theorem tb_first {l : List Lb} {k v : ByteArray} (h : l = []) : tb l ++ k ++ ⟨#[61]⟩ ++ v = tb (l ++ [(k, v)]) := by
  apply Go.WideShapes.bytes_inj
  unfold tb
  rw [txt_snoc, if_pos h, h]
  simp [txt, joinL]
theorem tb_next {l : List Lb} {k v : ByteArray} (h : l ≠ []) : tb l ++ ⟨#[44]⟩ ++ k ++ ⟨#[61]⟩ ++ v = tb (l ++ [(k, v)]) := by
  apply Go.WideShapes.bytes_inj
  unfold tb
  rw [txt_snoc, if_neg h]
  simp
theorem tb_size {l : List Lb} (hs : ∀ x ∈ l, x.1.size ≤ 127 ∧ x.2.size ≤ 63) (hl : l.length ≤ 32) : (tb l).size ≤ 6144 := by
  have := txt_len l hs
  show (txt l).toArray.size ≤ 6144
  rw [List.size_toArray]
  omega
set_option maxHeartbeats 8000000 in
set_option maxRecDepth 100000 in
theorem rtext_ok (v : Value) (l : List Lb) (w : World) (hi : Items w v l) (hg : Good l) (ho : OkL l) :
    Calls Tryz.prog 54 #[v] w fun e w' => e = .returned (.tuple #[.string ⟨(txt l).toArray⟩, .int .i64 0]) ∧ Below w.heap.size w w' := by
  have HC := hid (rcheck_any v l w hi hg)
  rw [check_ok ho] at HC
  have HS := hid (show ∀ x ∈ l, x.1.size ≤ 127 ∧ x.2.size ≤ 63 from fun x hx => ⟨key_size (lab_ok (ho.lab x hx)).1, val_size (lab_ok (ho.lab x hx)).2⟩)
  obtain ⟨a, cap, rfl, hi⟩ := hi
  have hl := ho.len
  obtain ⟨len, hlen⟩ : ∃ n, n = l.length := ⟨_, rfl⟩
  have HLEN := hid hlen
  rw [← hlen] at hi hl HC ⊢
  have HI := hid hi
  clear hlen hg ho hi
  have HTB := hid (show (⟨(txt l).toArray⟩ : ByteArray) = tb l from rfl)
  rw [HTB.out]
  go_enter Tryz.func54, Tryz.ntmps54
  go_wp2_with fail
  refine HC.out.mono ?_
  rintro e w1 ⟨rfl, hb⟩
  have B1 := hid hb
  clear hb
  go_wp2_with fail
  go_loopw [6, 7] (fun s i wr => ∃ k : Nat, k ≤ len ∧ i = .int .i64 k ∧ s = .string (tb (l.take k)) ∧ ∃ n, wr = w1.drewN n) (fun _ i _ => len - (intOf i).toNat)
  case atStart => exact ⟨0, Nat.zero_le _, rfl, rfl, 0, rfl⟩
  case round =>
    obtain ⟨k, hk, rfl, rfl, ⟨nd, rfl⟩⟩ := hrel
    by_cases hlt : k < len
    · rcases HI.out with h0 | ⟨b, off, rfl, hbl, hc⟩
      · omega
      obtain ⟨c0, c1⟩ := hc k hlt
      rw [← B1.out.cell (p := ⟨b, off + k * 2, none⟩) hbl] at c0
      rw [← B1.out.cell (p := ⟨b, off + k * 2 + 1, none⟩) hbl] at c1
      have hsz : b < w1.heap.size := Nat.lt_of_lt_of_le hbl B1.out.size
      have hkl : k < l.length := by rw [← HLEN.out]; exact hlt
      have hks := HS.out _ (kv_mem l k hkl)
      have hks1 : (ky l k).size ≤ 127 := hks.1
      have hks2 : (vl l k).size ≤ 63 := hks.2
      have hts : (tb (l.take k)).size ≤ 6144 := tb_size (fun x hx => HS.out x (List.mem_of_mem_take hx)) (by rw [List.length_take]; omega)
      have ht := take_kv l k hkl
      by_cases hk0 : k = 0
      · have hnil : l.take k = [] := by rw [hk0]; rfl
        have HT := hid (tb_first (k := ky l k) (v := vl l k) hnil)
        rw [← ht] at HT
        have hk0' : ¬ (0 : Int) < (k : Int) := by omega
        generalize tb (l.take k) = T0 at *
        generalize ky l k = key at *
        generalize vl l k = val at *
        clear hc ht hnil hk0 hks
        go_wp2_with fail
        go_quiet (fail)
        go_wp2_with fail
        exact ⟨⟨k + 1, by omega, by go_num, by rw [HT.out], ⟨_, rfl⟩⟩, by simp [intOf]; omega⟩
      · have hnil : l.take k ≠ [] := by
          intro e
          have := congrArg List.length e
          rw [List.length_take, List.length_nil] at this
          omega
        have HT := hid (tb_next (k := ky l k) (v := vl l k) hnil)
        rw [← ht] at HT
        have hk0' : (0 : Int) < (k : Int) := by omega
        generalize tb (l.take k) = T0 at *
        generalize ky l k = key at *
        generalize vl l k = val at *
        clear hc ht hnil hk0 hks
        go_wp2_with fail
        go_quiet (fail)
        go_wp2_with fail
        exact ⟨⟨k + 1, by omega, by go_num, by rw [HT.out], ⟨_, rfl⟩⟩, by simp [intOf]; omega⟩
    · obtain rfl : k = len := by omega
      have HF := hid (show tb (l.take k) = tb l by rw [HLEN.out, List.take_length])
      go_wp2_with fail
      go_ret2
      exact ⟨by rw [HF.out]; rfl, below_drewN B1.out _⟩
end Go.Proofs.YtnldagpbmphdhaaGreatDoor.L
