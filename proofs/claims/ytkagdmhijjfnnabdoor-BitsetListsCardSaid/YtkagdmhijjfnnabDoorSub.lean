import Derived.Test.YtkagdmhijjfnnabDoorOrW
namespace Go.Proofs.YtkagdmhijjfnnabDoor
open Go.RowKit Bs
def subW (ws vs : List Nat) : Bool := (List.range ws.length).all fun k => anot (ws.getD k 0) (vs.getD k 0) == 0
theorem subW_yes (ws vs : List Nat) (h : ∀ k, k < ws.length → anot (ws.getD k 0) (vs.getD k 0) = 0) : subW ws vs = true := by
  unfold subW
  rw [List.all_eq_true]
  intro k hk
  rw [List.mem_range] at hk
  rw [h k hk]; rfl
theorem subW_no (ws vs : List Nat) (k : Nat) (hk : k < ws.length) (h : anot (ws.getD k 0) (vs.getD k 0) ≠ 0) : subW ws vs = false := by
  unfold subW
  rw [List.all_eq_false]
  exact ⟨k, List.mem_range.2 hk, by simpa using h⟩
theorem subW_iff (ws vs : List Nat) (h1 : Wd ws) (h2 : Wd vs) : subW ws vs = true ↔ ∀ i, mem ws i = true → mem vs i = true := by
  rw [← subset_iff ws vs h1 h2]
  constructor
  · intro h k hk
    unfold subW at h
    rw [List.all_eq_true] at h
    simpa using h k (List.mem_range.2 hk)
  · exact subW_yes ws vs
theorem sub_num (x y : Nat) (hx : x < 18446744073709551616) (hy : y < 18446744073709551616) (b : Bool) (hb : (anot x y != 0) = b) : (bits .andNot .u64 (x : Int) (y : Int) != 0) = b := by
  rw [anot_num x y hx hy, ← hb, Bool.eq_iff_iff, bne_iff_ne, bne_iff_ne]; omega
theorem nat_num (x : Nat) (b : Bool) (hb : (x != 0) = b) : ((x : Int) != 0) = b := by
  rw [← hb, Bool.eq_iff_iff, bne_iff_ne, bne_iff_ne]; omega
set_option maxRecDepth 100000 in
set_option maxHeartbeats 1000000 in
theorem subset_words (p q n p' q' n' : Nat) (ws vs : List Nat) (w : World) (h : IsSet w p q n ws) (h' : IsSet w p' q' n' vs) :
    Calls Tryd.prog 34 #[.pointer (some ⟨p, 0, none⟩), .pointer (some ⟨p', 0, none⟩)] w fun e w' => e = .returned (.bool (subW ws vs)) ∧ w' = w := by
  have hc1 := h.c1
  have hd1 := h'.c1
  have HI := hid h
  have HI' := hid h'
  have hle := h.len
  have hle' := h'.len
  clear h h'
  obtain ⟨r, hr⟩ : ∃ r, r = subW ws vs := ⟨_, rfl⟩
  have HR := hid hr
  rw [← hr]
  clear hr
  obtain ⟨L, hL⟩ : ∃ L, L = ws.length := ⟨_, rfl⟩
  obtain ⟨L', hL'⟩ : ∃ L', L' = vs.length := ⟨_, rfl⟩
  have HL := hid hL
  have HL' := hid hL'
  rw [← hL] at hc1 hle
  rw [← hL'] at hd1 hle'
  clear hL hL'
  go_enter Tryd.func34, Tryd.ntmps34
  go_wp2_with (first | (go_at_call_of 51 p; refine (list_cell p _ _ _ _ hc1).mono ?_; rintro e w' ⟨rfl, rfl⟩) | (go_at_call_of 51 p'; refine (list_cell p' _ _ _ _ hd1).mono ?_; rintro e w' ⟨rfl, rfl⟩))
  go_loop [13] (fun i => ∃ k : Nat, k ≤ L ∧ i = .int .i64 k ∧ ∀ j, j < k → anot (ws.getD j 0) (vs.getD j 0) = 0) (fun i => L - (intOf i).toNat)
  case atStart => exact ⟨0, Nat.zero_le _, rfl, fun j hj => by omega⟩
  case round =>
    obtain ⟨k, hk, rfl, hall⟩ := hrel
    have HA := hid hall
    clear hall
    by_cases hlt : k < L
    · have hi1 : k < ws.length := by rw [← HL.out]; exact hlt
      have hx := HI.out.cw k hi1
      obtain ⟨x, hxe⟩ : ∃ x, x = ws.getD k 0 := ⟨_, rfl⟩
      rw [← hxe] at hx
      have HX := hid hxe
      have HXB := hid (HI.out.wd.getD k)
      by_cases hin : k < L'
      · have hi2 : k < vs.length := by rw [← HL'.out]; exact hin
        have hy := HI'.out.cw k hi2
        obtain ⟨y, hye⟩ : ∃ y, y = vs.getD k 0 := ⟨_, rfl⟩
        rw [← hye] at hy
        have HY := hid hye
        have HYB := hid (HI'.out.wd.getD k)
        cases hb : (anot x y != 0)
        · have hnum := sub_num x y (by rw [HX.out]; exact HXB.out) (by rw [HY.out]; exact HYB.out) false hb
          have HZ := hid hb
          clear hxe hye hb hi1 hi2
          go_wp2
          go_round
          case rel =>
            refine ⟨k + 1, by omega, by go_num, fun j hj => ?_⟩
            rcases Nat.lt_succ_iff_lt_or_eq.1 hj with c | c
            · exact HA.out j c
            · subst c; rw [← HX.out, ← HY.out]; simpa using HZ.out
          case measure => simp [intOf]; omega
        · have hnum := sub_num x y (by rw [HX.out]; exact HXB.out) (by rw [HY.out]; exact HYB.out) true hb
          have HZ := hid hb
          have hi := hid hi1
          clear hxe hye hb hi1 hi2
          go_wp2
          go_ret
          refine ⟨ret_bool ?_, rfl⟩
          rw [HR.out, subW_no ws vs k hi.out (by rw [← HX.out, ← HY.out]; simpa using HZ.out)]
      · have hy0 : vs.getD k 0 = 0 := by rw [List.getD_eq_getElem?_getD, List.getElem?_eq_none (by rw [← HL'.out]; omega)]; rfl
        have HY := hid hy0
        cases hb : (x != 0)
        · have hnum := nat_num x false hb
          have HZ := hid hb
          clear hxe hb hi1 hy0
          go_wp2
          go_round
          case rel =>
            refine ⟨k + 1, by omega, by go_num, fun j hj => ?_⟩
            rcases Nat.lt_succ_iff_lt_or_eq.1 hj with c | c
            · exact HA.out j c
            · subst c
              rw [HY.out, anot_zero _ HXB.out, ← HX.out]; simpa using HZ.out
          case measure => simp [intOf]; omega
        · have hnum := nat_num x true hb
          have HZ := hid hb
          have hi := hid hi1
          clear hxe hb hi1 hy0
          go_wp2
          go_ret
          refine ⟨ret_bool ?_, rfl⟩
          rw [HR.out, subW_no ws vs k hi.out (by rw [HY.out, anot_zero _ HXB.out, ← HX.out]; simpa using HZ.out)]
    · have e : k = L := by omega
      go_wp2
      go_ret
      refine ⟨ret_bool ?_, rfl⟩
      rw [HR.out, subW_yes ws vs (by rw [← HL.out, ← e]; exact HA.out)]
end Go.Proofs.YtkagdmhijjfnnabDoor
