import Derived.Test.YtkbjjbgmnfngjaaGreatDoorSrt
import Derived.Deep.RegionHeld3
namespace Go.Proofs.YtkbjjbgmnfngjaaGreatDoor.L
open Go.RowKit
set_option linter.unusedVariables false
def mkF (l : List Lb) (k : Nat) : Int := if labE (ky l k) (vl l k) = 0 then (if (getN (l.take k) (ky l k)).2 = true then 33 else 0) else labE (ky l k) (vl l k)
def mkS (l : List Lb) : Nat → Nat → ByteArray × Int
  | 0, _ => (ByteArray.empty, 0)
  | n + 1, k => if mkF l k = 0 then mkS l n (k + 1) else (ky l k, mkF l k)
def makeN (l : List Lb) : ByteArray × Int := if 32 < l.length then (ByteArray.empty, 34) else mkS l l.length 0
theorem mkS_step (l : List Lb) (len k : Nat) (h : k < len) : mkS l (len - k) k = if mkF l k = 0 then mkS l (len - (k + 1)) (k + 1) else (ky l k, mkF l k) := by
  obtain ⟨n, hn⟩ : ∃ n, len - k = n + 1 := ⟨len - k - 1, by omega⟩
  rw [hn, show len - (k + 1) = n by omega]
  rfl
set_option maxHeartbeats 4000000 in
theorem make_many (v : Value) (l : List Lb) (w : World) (hi : Items w v l) (hl : l.length ≤ maxLen) (h : 32 < l.length) : Calls Tryz.prog 22 #[v] w fun e w' => e = .returned (.tuple #[.slice none 0 0, .string ByteArray.empty, .int .i64 34]) ∧ w' = w := by
  obtain ⟨a, cap, rfl, hi⟩ := hi
  unfold maxLen at hl
  generalize l.length = len at *
  clear hi
  go_enter Tryz.func22, Tryz.ntmps22
  go_wp2
  go_ret3
  exact ⟨rfl, rfl⟩
theorem items_take {W : World} {a : Option Addr} {cap k : Nat} {l : List Lb} (h : Items W (.slice a l.length cap) l) (hk : k < l.length) (cap' : Nat) : Items W (.slice a k cap') (l.take k) := by
  obtain ⟨a', c', e, h⟩ := h
  cases e
  have hl : (l.take k).length = k := by rw [List.length_take]; omega
  refine ⟨a, cap', by rw [hl], ?_⟩
  rcases h with h | ⟨b, off, rfl, h1, h2⟩
  · omega
  · refine Or.inr ⟨b, off, rfl, h1, fun j hj => ?_⟩
    rw [hl] at hj
    have e1 : ky (l.take k) j = ky l j := by
      unfold ky
      simp [hj]
    have e2 : vl (l.take k) j = vl l j := by
      unfold vl
      simp [hj]
    rw [e1, e2]
    exact h2 j (by omega)
set_option maxHeartbeats 4000000 in
theorem make_few (v : Value) (l : List Lb) (w : World) (hc : Came w v l) (hg : Good l) (h : l.length ≤ 32) : Calls Tryz.prog 22 #[v] w fun e w' => ∃ v' l', e = .returned (.tuple #[v', .string (makeN l).1, .int .i64 (makeN l).2]) ∧ RowKit.Below w.heap.size w w' ∧ (((makeN l).2 ≠ 0 ∧ v' = .slice none 0 0) ∨ ((makeN l).2 = 0 ∧ Own w' w.heap.size v' l' ∧ Sorted l l')) := by
  have HCAME := hid hc
  have HI := hid hc.items
  have HSR := hid (fun W (hb : RowKit.Below w.heap.size w W) => sorted_any v l W (hc.low hb) hg)
  obtain ⟨a, cap, rfl, hi, hcap⟩ : ∃ a cap, v = .slice a l.length cap ∧ (l.length = 0 ∨ ∃ b off, a = some ⟨b, off, none⟩ ∧ b < w.heap.size ∧ ∀ j, j < l.length → w.cell? ⟨b, off + j * 2, none⟩ = some (.string (ky l j)) ∧ w.cell? ⟨b, off + j * 2 + 1, none⟩ = some (.string (vl l j))) ∧ l.length ≤ cap := by
    rcases hc with ⟨rfl, rfl⟩ | ⟨a, cap, rfl, hcap, h⟩
    · exact ⟨none, 0, rfl, Or.inl rfl, Nat.zero_le _⟩
    · refine ⟨some a, cap, rfl, ?_, hcap.1⟩
      rcases h with h | ⟨b, off, rfl, h1, h2⟩
      · exact Or.inl h
      · exact Or.inr ⟨b, off, rfl, h1, h2⟩
  have HR := hid (show makeN l = mkS l (l.length - 0) 0 by unfold makeN; rw [if_neg (by omega)]; rfl)
  have HG := hid hg.2
  obtain ⟨len, hlen⟩ : ∃ n, n = l.length := ⟨_, rfl⟩
  have HLEN := hid hlen
  rw [← hlen] at h hi HR HI HSR hcap ⊢
  clear hg hlen hc HCAME
  go_enter Tryz.func22, Tryz.ntmps22
  go_wp2
  go_loopw [13] (fun i wr => ∃ k : Nat, k ≤ len ∧ i = .int .i64 k ∧ Hid (Below w.heap.size w wr) ∧ Hid (makeN l = mkS l (len - k) k)) (fun i _ => len - (intOf i).toNat)
  case atStart => exact ⟨0, Nat.zero_le _, rfl, hid (Below.refl _ _), HR⟩
  case round =>
    obtain ⟨k, hk, rfl, HB, HK⟩ := hrel
    by_cases hlt : k < len
    · rcases hi with h0 | ⟨b, off, rfl, hbl, hc⟩
      · omega
      obtain ⟨c0, c1⟩ := hc k hlt
      rw [← HB.out.cell (p := ⟨b, off + k * 2, none⟩) hbl] at c0
      rw [← HB.out.cell (p := ⟨b, off + k * 2 + 1, none⟩) hbl] at c1
      have g1 : (0 : Int) ≤ (k : Int) := by omega
      have g2 : (k : Int) ≤ (cap : Int) := by omega
      have hsz : b < wr.heap.size := Nat.lt_of_lt_of_le hbl HB.out.size
      have hkl : k < l.length := by rw [← HLEN.out]; exact hlt
      have hn := HG.out _ (kv_mem l k hkl)
      have HL := hid (fun W => label_any (ky l k) (vl l k) W hn.1 hn.2)
      have HIT : ∀ c', Items w (.slice (some ⟨b, off, none⟩) k c') (l.take k) := fun c' => items_take (cap := cap) (by rw [← HLEN.out]; exact HI.out) hkl c'
      have HH := hid (fun c' W (hb : Below w.heap.size w W) => has_any (.slice (some ⟨b, off, none⟩) k c') (l.take k) (ky l k) W ((HIT c').low hb) (by unfold maxLen; rw [List.length_take]; omega) hn.1)
      clear HIT
      have st := HK.out.trans (mkS_step l len k hlt)
      unfold mkF at st
      rcases labE_cases (ky l k) (vl l k) with e1 | e1 | e1
      · rw [if_pos e1] at st
        rw [e1] at HL
        cases e2 : (getN (l.take k) (ky l k)).2
        · rw [if_neg (show ¬ (getN (l.take k) (ky l k)).2 = true by rw [e2]; decide), if_pos rfl] at st
          rw [e2] at HH
          have HF := hid st
          generalize ky l k = s' at *
          generalize vl l k = n at *
          clear hc st e1 e2 hn
          go_wp2_with fail
          refine (HL.out _).mono ?_
          rintro e w1 ⟨rfl, hb⟩
          have hx : w1.cell? ⟨wr.heap.size, 0, none⟩ = some (.string s') := by
            rw [hb.cell (p := ⟨wr.heap.size, 0, none⟩) (by simp)]
            simp
          have hz : wr.heap.size < w1.heap.size := Nat.lt_of_lt_of_le (by simp) hb.size
          have HB1 := hid ((HB.out.alloc HB.out.size _).trans (hb.mono (HB.out.alloc HB.out.size _).size))
          clear hb
          go_wp2_with fail
          have T0 : w1.drew.cell? ⟨wr.heap.size, 0, none⟩ = some (.string s') := hx
          go_region_held3 (fun W => W.cell? ⟨wr.heap.size, 0, none⟩ = some (.string s'))
            (first | exact T0 | exact T1)
            (first | (go_at_call 17; refine (HH.out _ _ HB1.out.drew).mono ?_; rintro e w2 ⟨rfl, hb2⟩; have T1 : w2.cell? ⟨wr.heap.size, 0, none⟩ = some (.string s') := (hb2.cell (p := ⟨wr.heap.size, 0, none⟩) hz).trans hx; have D2 := hid hb2; clear hb2))
          have HB2 := hid (HB1.out.drew.trans (D2.out.mono HB1.out.size))
          clear T0
          go_wp2_with fail
          exact ⟨⟨k + 1, by omega, by go_num, hid HB2.out, HF⟩, by simp [intOf]; omega⟩
        · rw [if_pos e2, if_neg (show ¬ (33 : Int) = 0 by decide)] at st
          rw [e2] at HH
          have HF := hid st
          generalize ky l k = s' at *
          generalize vl l k = n at *
          clear hc st e1 e2 hn
          go_wp2_with fail
          refine (HL.out _).mono ?_
          rintro e w1 ⟨rfl, hb⟩
          have hx : w1.cell? ⟨wr.heap.size, 0, none⟩ = some (.string s') := by
            rw [hb.cell (p := ⟨wr.heap.size, 0, none⟩) (by simp)]
            simp
          have hz : wr.heap.size < w1.heap.size := Nat.lt_of_lt_of_le (by simp) hb.size
          have HB1 := hid ((HB.out.alloc HB.out.size _).trans (hb.mono (HB.out.alloc HB.out.size _).size))
          clear hb
          go_wp2_with fail
          have T0 : w1.drew.cell? ⟨wr.heap.size, 0, none⟩ = some (.string s') := hx
          go_region_held3 (fun W => W.cell? ⟨wr.heap.size, 0, none⟩ = some (.string s'))
            (first | exact T0 | exact T1)
            (first | (go_at_call 17; refine (HH.out _ _ HB1.out.drew).mono ?_; rintro e w2 ⟨rfl, hb2⟩; have T1 : w2.cell? ⟨wr.heap.size, 0, none⟩ = some (.string s') := (hb2.cell (p := ⟨wr.heap.size, 0, none⟩) hz).trans hx; have D2 := hid hb2; clear hb2))
          have HB2 := hid (HB1.out.drew.trans (D2.out.mono HB1.out.size))
          clear T0
          go_wp2_with fail
          go_quiet (fail)
          go_wp2_with fail
          go_ret3
          exact ⟨_, [], by rw [HF.out]; rfl, below_drewN HB2.out _, Or.inl ⟨by rw [HF.out]; simp, rfl⟩⟩
      · rw [e1, if_neg (show ¬ (31 : Int) = 0 by decide), if_neg (show ¬ (31 : Int) = 0 by decide)] at st
        rw [e1] at HL
        have HF := hid st
        generalize ky l k = s' at *
        generalize vl l k = n at *
        clear hc st e1 hn
        go_wp2_with fail
        refine (HL.out _).mono ?_
        rintro e w1 ⟨rfl, hb⟩
        have hx : w1.cell? ⟨wr.heap.size, 0, none⟩ = some (.string s') := by
          rw [hb.cell (p := ⟨wr.heap.size, 0, none⟩) (by simp)]
          simp
        have hz : wr.heap.size < w1.heap.size := Nat.lt_of_lt_of_le (by simp) hb.size
        have HB1 := hid ((HB.out.alloc HB.out.size _).trans (hb.mono (HB.out.alloc HB.out.size _).size))
        clear hb
        go_wp2_with fail
        go_quiet (fail)
        go_wp2_with fail
        go_ret3
        exact ⟨_, [], by rw [HF.out]; rfl, below_drewN HB1.out _, Or.inl ⟨by rw [HF.out]; simp, rfl⟩⟩
      · rw [e1, if_neg (show ¬ (32 : Int) = 0 by decide), if_neg (show ¬ (32 : Int) = 0 by decide)] at st
        rw [e1] at HL
        have HF := hid st
        generalize ky l k = s' at *
        generalize vl l k = n at *
        clear hc st e1 hn
        go_wp2_with fail
        refine (HL.out _).mono ?_
        rintro e w1 ⟨rfl, hb⟩
        have hx : w1.cell? ⟨wr.heap.size, 0, none⟩ = some (.string s') := by
          rw [hb.cell (p := ⟨wr.heap.size, 0, none⟩) (by simp)]
          simp
        have hz : wr.heap.size < w1.heap.size := Nat.lt_of_lt_of_le (by simp) hb.size
        have HB1 := hid ((HB.out.alloc HB.out.size _).trans (hb.mono (HB.out.alloc HB.out.size _).size))
        clear hb
        go_wp2_with fail
        go_quiet (fail)
        go_wp2_with fail
        go_ret3
        exact ⟨_, [], by rw [HF.out]; rfl, below_drewN HB1.out _, Or.inl ⟨by rw [HF.out]; simp, rfl⟩⟩
    · obtain rfl : k = len := by omega
      have HF := hid (show makeN l = (ByteArray.empty, 0) by rw [HK.out, Nat.sub_self]; rfl)
      go_wp2_with fail
      refine (HSR.out _ HB.out).mono ?_
      rintro e w2 ⟨v', l', rfl, hcm, hst, hb⟩
      have R := hid (show Own w2 w.heap.size v' l' ∧ Sorted l l' ∧ Below w.heap.size w w2 from ⟨own_mono hcm HB.out.size, hst, HB.out.trans (hb.mono HB.out.size)⟩)
      clear hcm hst hb
      go_wp2_with fail
      go_ret3
      exact ⟨_, l', by rw [HF.out]; rfl, R.out.2.2, Or.inr ⟨by rw [HF.out], R.out.1, R.out.2.1⟩⟩
theorem make_any (v : Value) (l : List Lb) (w : World) (hc : Came w v l) (hg : Good l) : Calls Tryz.prog 22 #[v] w fun e w' => ∃ v' l', e = .returned (.tuple #[v', .string (makeN l).1, .int .i64 (makeN l).2]) ∧ RowKit.Below w.heap.size w w' ∧ (((makeN l).2 ≠ 0 ∧ v' = .slice none 0 0) ∨ ((makeN l).2 = 0 ∧ Own w' w.heap.size v' l' ∧ Sorted l l')) := by
  by_cases h : 32 < l.length
  · refine (make_many v l w hc.items hg.1.1 h).mono ?_
    rintro e w' ⟨rfl, rfl⟩
    have e : makeN l = (ByteArray.empty, 34) := by unfold makeN; rw [if_pos h]
    rw [e]
    exact ⟨_, [], rfl, Below.refl _ _, Or.inl ⟨by decide, rfl⟩⟩
  · exact make_few v l w hc hg (by omega)
end Go.Proofs.YtkbjjbgmnfngjaaGreatDoor.L
