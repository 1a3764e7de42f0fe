import Derived.Test.YtkagdmhijjfnnabDoorCount
namespace Go.Proofs.YtkagdmhijjfnnabDoor
open Go.RowKit Bs
/-- The word without its lowest bit. -/
def lo (x : Nat) : Nat := x &&& ((x + 18446744073709551615) % 18446744073709551616)
theorem lo_lt (x : Nat) (hx : x < 18446744073709551616) : lo x < 18446744073709551616 := and_lt _ _ hx
theorem lo_num (x : Nat) (hx : x < 18446744073709551616) : bits .and .u64 (x : Int) (IntKind.u64.wrap ((x : Int) - 1)) = ((lo x : Nat) : Int) := by
  have e : IntKind.u64.wrap ((x : Int) - 1) = (((x + 18446744073709551615) % 18446744073709551616 : Nat) : Int) := by rw [IntKind.wrap_u64]; omega
  rw [e]
  exact u64_and_nat x _ hx (Nat.mod_lt _ (by decide))
/-- The word after k rounds. -/
def loN : Nat → Nat → Nat
  | 0, x => x
  | k + 1, x => lo (loN k x)
theorem loN_lt (x : Nat) (hx : x < 18446744073709551616) : ∀ k, loN k x < 18446744073709551616
  | 0 => hx
  | k + 1 => lo_lt _ (loN_lt x hx k)
/-- What k rounds give of word j. -/
def lows (j : Nat) : Nat → Nat → List Int
  | 0, _ => []
  | k + 1, x => lows j k x ++ [((j * 64 + Lib.ctz 64 (loN k x) : Nat) : Int)]
theorem length_lows (j x : Nat) : ∀ k, (lows j k x).length = k
  | 0 => rfl
  | k + 1 => by rw [lows, List.length_append, length_lows j x k]; rfl
/-- What the first k words give. -/
def msL : Nat → List Nat → List Int
  | 0, _ => []
  | k + 1, ws => msL k ws ++ lows k (ones (ws.getD k 0)) (ws.getD k 0)
theorem length_msL (ws : List Nat) : ∀ k, k ≤ ws.length → (msL k ws).length = cnt k ws
  | 0, _ => by rw [cnt_zero]; rfl
  | k + 1, h => by rw [msL, List.length_append, length_lows, length_msL ws k (by omega), cnt_succ k ws (by omega)]
theorem ctz_le (x : Nat) (hx : x < 18446744073709551616) : Lib.ctz 64 x ≤ 64 := by
  by_cases h0 : x = 0
  · subst h0; decide
  · have := (Lib.lowest_bit 64 x h0 hx).2; omega
theorem tz_all (x : Nat) (w : World) (hx : x < 18446744073709551616) (ht : Tab w) : Calls Tryd.prog 45 #[.int .u64 x] w fun e w' => e = .returned (.int .i64 ((Lib.ctz 64 x : Nat) : Int)) ∧ w' = w := by
  by_cases h0 : x = 0
  · subst h0; exact tz_zero w
  · exact tz_any x w h0 hx ht
theorem Tab.low {w w' : World} {B : Nat} (h : Tab w) (k : Below B w w') (hB : 0 < B) : Tab w' := fun j hj => (k.cell (p := ⟨0, j, none⟩) hB).trans (h j hj)
set_option maxRecDepth 100000 in
set_option maxHeartbeats 1000000 in
theorem members_words (p q n : Nat) (ws : List Nat) (w : World) (h : IsSet w p q n ws) (ht : Tab w) :
    Calls Tryd.prog 23 #[.pointer (some ⟨p, 0, none⟩)] w fun e w' => ∃ v, e = .returned v ∧ w'.ownsRow w.heap.size 3 1 v (msL ws.length ws).length ((msL ws.length ws).map (Value.int .i64)) ∧ Below w.heap.size w w' := by
  obtain ⟨i0, hi0, hz0, hz1, hz2⟩ := info3
  have hc1 := h.c1
  have hcb := cnt_le ws.length ws (Nat.le_refl _)
  have hle := h.len
  have HI := hid h
  have HT := hid ht
  have hw0 : 0 < w.heap.size := by have := h.plt; omega
  have HCB := hid (countBits_any q ws w h.hq h.len h.wd)
  clear h ht
  obtain ⟨c, hc⟩ : ∃ c, c = cnt ws.length ws := ⟨_, rfl⟩
  rw [← hc] at hcb HCB
  obtain ⟨wm, hmk, hmo, hmg⟩ := run_make_own (P := Tryd.prog) w w.heap.size 22 3 i0 (.int .i64 0) 1 Tryd.underlying22 hi0 hz0 hz1 .i64 .i64 c (by rw [hz2]; omega) (by unfold maxLen; omega) (Nat.le_refl _)
  have hmb : Below w.heap.size w wm := (Below.refl _ _).grown hmg (Nat.le_refl _) (fun k hk => by cases hk)
  have HMO := hid hmo
  have HMB := hid hmb
  clear hmo hmg hmb hc
  obtain ⟨L, hL⟩ : ∃ L, L = ws.length := ⟨_, rfl⟩
  have HL := hid hL
  rw [← hL] at hc1 hle hcb HCB ⊢
  clear hL
  go_enter Tryd.func23, Tryd.ntmps23
  go_wp2_with (first | (go_at_call 51; refine (list_cell p _ _ _ _ hc1).mono ?_; rintro e w1 ⟨rfl, hww⟩; subst hww) | (go_at_call 48; refine HCB.out.mono ?_; rintro e w1 ⟨rfl, hww⟩; subst hww))
  clear hmk HCB hcb
  go_loopw [4, 14] (fun v i wr => ∃ k : Nat, k ≤ L ∧ i = .int .i64 k ∧ wr.ownsRow w1.heap.size 3 1 v (msL k ws).length ((msL k ws).map (Value.int .i64)) ∧ Below w1.heap.size w1 wr) (fun _ i _ => L - (intOf i).toNat)
  case atStart => exact ⟨0, Nat.zero_le _, rfl, HMO.out, HMB.out⟩
  case round =>
    clear HMO HMB
    obtain ⟨k, hk, rfl, hown, hb⟩ := hrel
    by_cases hlt : k < L
    · have hi : k < ws.length := by rw [← HL.out]; exact hlt
      have hx := HI.out.cw k hi
      rw [← hb.cell (p := ⟨q, k, none⟩) HI.out.qlt] at hx
      obtain ⟨x, hxe⟩ : ∃ x, x = ws.getD k 0 := ⟨_, rfl⟩
      have hxb := HI.out.wd.getD k
      rw [← hxe] at hx hxb
      have HXB := hid hxb
      have HX := hid hxe
      have hol := ones_lt x
      have HO := hid (ones_any x wr hxb)
      obtain ⟨o, ho⟩ : ∃ o, o = ones x := ⟨_, rfl⟩
      rw [← ho] at HO hol
      have HOO := hid ho
      have HOW := hid hown
      have HB := hid hb
      clear hxe hxb ho hown hi hb
      go_wp2_with (go_at_call 49; refine HO.out.mono ?_; rintro e w2 ⟨rfl, hww⟩; subst hww)
      clear HO hx
      go_loopw [4, 6, 23] (fun v r t wr => ∃ j : Nat, j ≤ o ∧ t = .int .i64 j ∧ r = .int .u64 ((loN j x : Nat) : Int) ∧ wr.ownsRow w1.heap.size 3 1 v (msL k ws ++ lows k j x).length ((msL k ws ++ lows k j x).map (Value.int .i64)) ∧ Below w1.heap.size w1 wr) (fun _ _ t _ => o - (intOf t).toNat)
      case atStart => exact ⟨0, Nat.zero_le _, rfl, rfl, by rw [lows, List.append_nil]; exact HOW.out, HB.out⟩
      case round =>
        clear HOW HB
        obtain ⟨j, hj, rfl, rfl, hown, hb⟩ := hrel
        have hyb := loN_lt x HXB.out j
        have hlen : (msL k ws ++ lows k j x).length ≤ 128 * k + j := by
          rw [List.length_append, length_lows, length_msL ws k (by rw [← HL.out]; exact hk)]
          have := cnt_le k ws (by rw [← HL.out]; exact hk)
          omega
        have hsucc : msL k ws ++ lows k (j + 1) x = (msL k ws ++ lows k j x) ++ [((k * 64 + Lib.ctz 64 (loN j x) : Nat) : Int)] := by rw [lows, List.append_assoc]
        have hlo := lo_num (loN j x) hyb
        have HLO : Hid (loN (j + 1) x = lo (loN j x)) := rfl
        have hct := ctz_le (loN j x) hyb
        have HTZ := hid (fun W (h : Tab W) => tz_all (loN j x) W hyb h)
        obtain ⟨y, hy⟩ : ∃ y, y = loN j x := ⟨_, rfl⟩
        rw [← hy] at hsucc hlo HLO hct HTZ ⊢
        obtain ⟨z, hz⟩ : ∃ z, z = lo y := ⟨_, rfl⟩
        rw [← hz] at hlo HLO
        obtain ⟨t, htt⟩ : ∃ t, t = Lib.ctz 64 y := ⟨_, rfl⟩
        rw [← htt] at hsucc hct HTZ
        obtain ⟨xs, hxs⟩ : ∃ xs, xs = msL k ws ++ lows k j x := ⟨_, rfl⟩
        rw [← hxs] at hsucc hlen hown
        have HSUC := hid hsucc
        have HTB := hid (HT.out.low hb hw0)
        have HXS := hid hxs
        clear hyb hsucc hy hz htt hxs
        by_cases hlt2 : j < o
        · go_wp2_with (first
            | (go_at_call 45; refine (HTZ.out _ HTB.out).mono ?_; rintro e w3 ⟨rfl, hww⟩; subst hww)
            | (at_builtin; refine wpList_append_own _ rfl _ _ 22 rfl w1.heap.size 3 i0 (.int .i64 0) 1 8 Tryd.underlying22 hi0 hz0 hz1 hz2 rfl (by decide) _ _ _ rfl (hown.alloc _) ⟨w3.heap.size, 0, none⟩ 1 1 [.int .i64 ((k : Int) * 64 + (t : Int))] rfl rfl ?c1 ?c2 ?c3 ?c4 ?c5 ?_))
          case c1 => exact cell_one_new _ _ _
          case c2 => intro u hu; simp at hu; subst hu; rfl
          case c3 => unfold maxLen; omega
          case c4 => omega
          case c5 => have := hb.size; simp; omega
          intro v' w4 hown' hgrow _
          have hb1 : Below w1.heap.size w1 w4 := (hb.alloc hb.size _).grown hgrow (by have := hb.size; simp; omega) (owns_block hown)
          have R : w4.ownsRow w1.heap.size 3 1 v' (msL k ws ++ lows k (j + 1) x).length ((msL k ws ++ lows k (j + 1) x).map (Value.int .i64)) := by
            rw [HSUC.out, List.length_append, List.map_append]; exact hown'
          have RR := hid R
          clear hown' hgrow hown R
          go_wp2
          go_roundw
          case rel => exact ⟨j + 1, by omega, by go_num, by rw [HLO.out], RR.out, hb1⟩
          case measure => simp [intOf]; omega
        · have e : j = o := by omega
          have em : xs = msL (k + 1) ws := by rw [HXS.out, msL, e, HOO.out, HX.out]
          have R := owns_same em.symm hown
          have RR := hid R
          clear hown R em e
          go_wp2
          go_roundw
          case rel => exact ⟨k + 1, by omega, by go_num, RR.out, hb⟩
          case measure => simp [intOf]; omega
    · have e : k = L := by omega
      subst e
      go_wp2
      go_ret
      exact ⟨_, rfl, hown, hb⟩
end Go.Proofs.YtkagdmhijjfnnabDoor
