import Derived.Test.YtkagdmhijjfnnabDoorRank
namespace Go.Proofs.YtkagdmhijjfnnabDoor
open Go.RowKit Bs
/-- r is the member with k others below it, or -1. -/
def IsSel (n : Nat) (S : Nat → Bool) (k r : Int) : Prop := (∃ j : Nat, r = j ∧ j < n ∧ S j = true ∧ (card j S : Int) = k) ∨ (r = -1 ∧ (k < 0 ∨ (card n S : Int) ≤ k))
theorem IsSel.one {n : Nat} {S : Nat → Bool} {k r r' : Int} (h : IsSel n S k r) (h' : IsSel n S k r') : r = r' := by
  rcases h with ⟨j, rfl, hj, hs, hc⟩ | ⟨rfl, hk⟩ <;> rcases h' with ⟨j', rfl, hj', hs', hc'⟩ | ⟨rfl, hk'⟩
  · rw [nth_unique S hs hs' (by omega)]
  · have := card_step S hj hs; omega
  · have := card_step S hj' hs'; omega
  · rfl
theorem IsSel.ex (n : Nat) (S : Nat → Bool) (k : Int) : ∃ r, IsSel n S k r := by
  by_cases h : k < 0 ∨ (card n S : Int) ≤ k
  · exact ⟨-1, Or.inr ⟨rfl, h⟩⟩
  · obtain ⟨b, h1, h2, h3⟩ := exists_nth S k.toNat n (by omega)
    exact ⟨b, Or.inl ⟨b, rfl, h1, h2, by omega⟩⟩
set_option maxRecDepth 100000 in
set_option maxHeartbeats 2000000 in
theorem sel_neg (p : Nat) (k : Int) (w : World) (hk : k < 0) :
    Calls Tryd.prog 13 #[.pointer (some ⟨p, 0, none⟩), .int .i64 k] w fun e w' => e = .returned (.int .i64 (-1)) ∧ w' = w := by
  go_enter Tryd.func13, Tryd.ntmps13
  go_wp2_with fail
  go_ret
  exact ⟨rfl, rfl⟩
set_option maxRecDepth 100000 in
set_option maxHeartbeats 4000000 in
theorem sel_words (p q n k : Nat) (ws : List Nat) (w : World) (h : IsSet w p q n ws) (ht : Tab w) (hk : k ≤ 9223372036854775807) :
    Calls Tryd.prog 13 #[.pointer (some ⟨p, 0, none⟩), .int .i64 k] w fun e w' => ∃ r, e = .returned (.int .i64 r) ∧ IsSel n (mem ws) k r ∧ w' = w := by
  have hc1 := h.c1
  have hle := h.len
  have HI := hid h
  have HT := hid ht
  clear h ht
  obtain ⟨L, hL⟩ : ∃ L, L = ws.length := ⟨_, rfl⟩
  have HL := hid hL
  rw [← hL] at hc1 hle
  clear hL
  have hk0 : ¬ ((k : Int) < 0) := by omega
  go_enter Tryd.func13, Tryd.ntmps13
  go_wp2_with (go_at_call 51; refine (list_cell p _ _ _ _ hc1).mono ?_; rintro e w1 ⟨rfl, hww⟩; subst hww)
  go_loop [1, 13] (fun kk i => ∃ d m : Nat, d ≤ L ∧ i = .int .i64 d ∧ kk = .int .i64 m ∧ cnt d ws + m = k) (fun _ i => L - (intOf i).toNat)
  case atStart => exact ⟨0, k, Nat.zero_le _, rfl, rfl, by rw [cnt_zero]; omega⟩
  case round =>
    obtain ⟨d, m, hd, rfl, rfl, hsum⟩ := hrel
    have HS := hid hsum
    have hmk : m ≤ k := by omega
    clear hsum
    by_cases hlt : d < L
    · have hi : d < ws.length := by rw [← HL.out]; exact hlt
      have hx := HI.out.cw d hi
      obtain ⟨x, hxe⟩ : ∃ x, x = ws.getD d 0 := ⟨_, rfl⟩
      have hxb := HI.out.wd.getD d
      rw [← hxe] at hx hxb
      have hol := ones_lt x
      have HO := hid (fun W => ones_any x W hxb)
      have HXB := hid hxb
      have HX := hid hxe
      have HD := hid hi
      obtain ⟨o, ho⟩ : ∃ o, o = ones x := ⟨_, rfl⟩
      rw [← ho] at HO hol
      have HOO := hid ho
      clear hxe hxb ho hi
      by_cases hge : o ≤ m
      · have HN := hid (show cnt (d + 1) ws + (m - o) = k by
          rw [cnt_succ d ws HD.out, ← HX.out, ← HOO.out]; have := HS.out; omega)
        go_wp2_with (go_at_call 49; refine (HO.out _).mono ?_; rintro e w1 ⟨rfl, hww⟩; subst hww)
        go_round
        case rel => exact ⟨d + 1, m - o, by omega, by go_num, by go_num, HN.out⟩
        case measure => simp [intOf]; omega
      · have hmo : m < o := by omega
        clear hge
        go_wp2_with (go_at_call 49; refine (HO.out _).mono ?_; rintro e w1 ⟨rfl, hww⟩; subst hww)
        go_loop [6, 27] (fun r t => ∃ j : Nat, j ≤ m ∧ t = .int .i64 j ∧ r = .int .u64 ((loN j x : Nat) : Int)) (fun _ t => m - (intOf t).toNat)
        case atStart => exact ⟨0, Nat.zero_le _, rfl, rfl⟩
        case round =>
          obtain ⟨j, hj, rfl, rfl⟩ := hrel
          have hyb := loN_lt x HXB.out j
          by_cases hjm : j < m
          · have HSUC : Hid (loN (j + 1) x = lo (loN j x)) := rfl
            have hlo := lo_num (loN j x) hyb
            obtain ⟨y, hy⟩ : ∃ y, y = loN j x := ⟨_, rfl⟩
            rw [← hy] at hlo HSUC ⊢
            obtain ⟨z, hz⟩ : ∃ z, z = lo y := ⟨_, rfl⟩
            rw [← hz] at hlo HSUC
            have HSS := hid HSUC.out
            clear hy hz HSUC hyb
            go_wp2_with fail
            go_round
            case rel => exact ⟨j + 1, by omega, by go_num, by rw [HSS.out]⟩
            case measure => simp [intOf]; omega
          · have e : j = m := by omega
            subst e
            have hrk := ctz_rank x HXB.out j (by rw [← ones_pop, ← HOO.out]; exact hmo)
            have HTZ := hid (fun W (h : Tab W) => tz_all (loN j x) W hyb h)
            have hct := ctz_le (loN j x) hyb
            obtain ⟨y, hy⟩ : ∃ y, y = loN j x := ⟨_, rfl⟩
            rw [← hy] at hrk HTZ hct ⊢
            obtain ⟨t, htt⟩ : ∃ t, t = Lib.ctz 64 y := ⟨_, rfl⟩
            rw [← htt] at hrk HTZ hct
            have HRK := hid hrk
            clear hrk hy htt hyb
            go_wp2_with (go_at_call 45; refine (HTZ.out _ HT.out).mono ?_; rintro e w1 ⟨rfl, hww⟩; subst hww)
            go_ret
            refine ⟨_, rfl, Or.inl ⟨64 * d + t, by omega, ?_, ?_, ?_⟩, rfl⟩
            · apply Classical.byContradiction
              intro c0
              have := HI.out.cl (64 * d + t) (by omega)
              rw [mem_at ws d t HRK.out.2.1, ← HX.out, HRK.out.1] at this
              cases this
            · rw [mem_at ws d t HRK.out.2.1, ← HX.out]; exact HRK.out.1
            · have a := HRK.out.2.2
              have b := HS.out
              rw [card_at ws d t hct (by have := HD.out; omega), ← HX.out, a]
              omega
    · have e : d = L := by omega
      subst e
      go_wp2_with fail
      go_ret
      refine ⟨_, rfl, Or.inr ⟨rfl, Or.inr ?_⟩, rfl⟩
      rw [← isSet_card HI.out, ← HL.out]
      have := HS.out
      omega
theorem IsSel.turn {n : Nat} {S T : Nat → Bool} {k r : Int} (h : IsSel n S k r) (e : ∀ i, S i = T i) : IsSel n T k r := by
  have : S = T := funext e
  subst this; exact h
/-- Select. -/
theorem sel_set {p q n : Nat} {S : Nat → Bool} (k r : Int) (w : World) (h : SetAt w p q n S) (ht : Tab w) (hk : k ≤ 9223372036854775807) (hr : IsSel n S k r) :
    Calls Tryd.prog 13 #[.pointer (some ⟨p, 0, none⟩), .int .i64 k] w fun e w' => e = .returned (.int .i64 r) ∧ w' = w := by
  obtain ⟨ws, x, hx⟩ := h
  by_cases h0 : k < 0
  · refine (sel_neg p k w h0).mono ?_
    rintro e w' ⟨rfl, rfl⟩
    exact ⟨ret_int (IsSel.one (Or.inr ⟨rfl, Or.inl h0⟩) hr), rfl⟩
  · obtain ⟨m, rfl⟩ := Int.eq_ofNat_of_zero_le (show 0 ≤ k by omega)
    refine (sel_words p q n m ws w x ht (by omega)).mono ?_
    rintro e w' ⟨r', rfl, hs, rfl⟩
    exact ⟨ret_int ((hs.turn hx).one hr), rfl⟩
end Go.Proofs.YtkagdmhijjfnnabDoor
