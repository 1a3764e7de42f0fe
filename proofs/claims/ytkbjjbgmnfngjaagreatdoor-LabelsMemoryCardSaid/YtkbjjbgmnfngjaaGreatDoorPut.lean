import Derived.Test.YtkbjjbgmnfngjaaGreatDoorOk
import Derived.Test.YtkbjjbgmnfngjaaGreatDoorPar
namespace Go.Proofs.YtkbjjbgmnfngjaaGreatDoor.L
open Go.RowKit
set_option linter.unusedVariables false
/-- The labels with other keys. -/
def delL (l : List Lb) (s : ByteArray) : List Lb := l.filter fun x => !eqS x.1 s
theorem del_yes (l : List Lb) (s : ByteArray) (k : Nat) (h : k < l.length) (c : eqS (ky l k) s = false) : delL (l.take (k + 1)) s = delL (l.take k) s ++ [(ky l k, vl l k)] := by
  unfold delL
  rw [take_kv l k h, List.filter_append, List.filter_cons_of_pos (by simpa using c)]
  rfl
theorem del_no (l : List Lb) (s : ByteArray) (k : Nat) (h : k < l.length) (c : eqS (ky l k) s = true) : delL (l.take (k + 1)) s = delL (l.take k) s := by
  unfold delL
  rw [take_kv l k h, List.filter_append, List.filter_cons_of_neg (by simpa using c)]
  simp
theorem del_len (l : List Lb) (s : ByteArray) : (delL l s).length ≤ l.length := List.length_filter_le _ _
set_option maxHeartbeats 4000000 in
set_option maxRecDepth 100000 in
theorem delf_any (v : Value) (l : List Lb) (s : ByteArray) (w : World) (hi : Items w v l) (hg : Good l) (hs : s.size ≤ maxLen) :
    Calls Tryz.prog 24 #[v, .string s] w fun e w' => ∃ v', e = .returned (.tuple #[v', .bool (decide ((delL l s).length < l.length))]) ∧ Own w' w.heap.size v' (delL l s) ∧ Below w.heap.size w w' := by
  obtain ⟨i0, hi0, hz0, hz1, hz2⟩ := info_parts infoL
  obtain ⟨a, cap, rfl, hi⟩ := hi
  have hl := hg.1.1
  have hl2 := hg.1.2
  obtain ⟨len, hlen⟩ : ∃ n, n = l.length := ⟨_, rfl⟩
  rw [← hlen] at hi hl hl2 ⊢
  have HLEN := hid hlen
  clear hlen hg
  go_enter Tryz.func24, Tryz.ntmps24
  go_wp2

  go_loopw [6, 11] (fun o i wr => ∃ k : Nat, k ≤ len ∧ i = .int .i64 k ∧ Hid (Below w.heap.size w wr) ∧ Hid (Own wr w.heap.size o (delL (l.take k) s))) (fun _ i _ => len - (intOf i).toNat)
  case atStart => exact ⟨0, Nat.zero_le _, rfl, hid (Below.refl _ _), hid (World.ownsRow_nil _ _ _ _)⟩
  case round =>
    obtain ⟨k, hk, rfl, HB, OW⟩ := hrel
    have hws : w.heap.size ≤ wr.heap.size := HB.out.size
    by_cases hlt : k < len
    · rcases hi with h0 | ⟨b, off, rfl, hbl, hc⟩
      · omega
      obtain ⟨c0, c1⟩ := hc k hlt
      rw [← HB.out.cell (p := ⟨b, off + k * 2, none⟩) hbl] at c0
      rw [← HB.out.cell (p := ⟨b, off + k * 2 + 1, none⟩) hbl] at c1
      have hsz : b < wr.heap.size := Nat.lt_of_lt_of_le hbl HB.out.size
      have hkl : k < l.length := by rw [← HLEN.out]; exact hlt
      have dn := del_no l s k hkl
      have dy := del_yes l s k hkl
      have sk : (delL (l.take k) s).length ≤ k := Nat.le_trans (del_len _ _) (by rw [List.length_take]; omega)
      unfold eqS at dn dy
      generalize delL (l.take k) s = S at *
      cases e1 : ((ky l k).toList == s.toList)
      · have HT := hid (dy e1)
        have e1' : ((ky l k).toList != s.toList) = true := by simp [bne, e1]
        generalize ky l k = s' at *
        generalize vl l k = n at *
        clear hc dn dy
        go_wp2_with (first
          | (at_builtin; refine wpList_append_own _ rfl _ _ 22 rfl w.heap.size 36 i0 (.agg #[.string ByteArray.empty, .string ByteArray.empty]) 2 32 Tryz.underlying22 hi0 hz0 hz1 hz2 rfl (by decide) _ _ _ rfl (World.ownsRow.alloc (World.ownsRow.alloc OW.out _) _) ⟨wr.heap.size + 1, 0, none⟩ 1 1 [.string s', .string n] rfl rfl (cell_two_at _ _ _ _ _ (by simp)) (fun x hx => by simp at hx; rcases hx with rfl | rfl <;> rfl) (by unfold maxLen at *; omega) (by omega) (by simp; omega) ?_; intro v' w3 hown' hgrow3 hnil3)
          | go_in)
        clear hnil3
        have B3 : Below w.heap.size w w3 := ((HB.out.alloc hws _).alloc (by simp; omega) _).grown hgrow3 (by simp; omega) (fun j hj => own_base OW.out j hj)
        exact ⟨⟨k + 1, by omega, by go_num, hid B3, hid (by rw [HT.out]; exact own_snoc (x := (s', n)) hown')⟩, by simp [intOf]; omega⟩
      · have HT := hid (dn e1)
        have e1' : ((ky l k).toList != s.toList) = false := by simp [bne, e1]
        generalize ky l k = s' at *
        generalize vl l k = n at *
        clear hc dn dy
        go_wp2_with fail
        exact ⟨⟨k + 1, by omega, by go_num, hid (HB.out.alloc hws _), hid (by rw [HT.out]; exact own_low OW.out (belowA _ _))⟩, by simp [intOf]; omega⟩
    · obtain rfl : k = len := by omega
      have o := OW.out
      rw [show l.take k = l by rw [HLEN.out, List.take_length]] at o
      have O := hid o
      obtain ⟨a', cap', e⟩ : ∃ a cap, _ = Value.slice a (delL l s).length cap := by
        obtain ⟨a', c', e, _⟩ := own_items o
        exact ⟨a', c', e⟩
      subst e
      have hdl := del_len l s
      rw [← HLEN.out] at hdl
      clear o
      generalize hD : (delL l s).length = D at *
      go_wp2_with fail
      go_ret2
      exact ⟨_, by rw [hD]; rfl, O.out, HB.out⟩
def putE (l : List Lb) (k v : ByteArray) : Int := if labE k v = 0 then (if (delL l k).length = 32 then 34 else 0) else labE k v
set_option maxHeartbeats 4000000 in
set_option maxRecDepth 100000 in
theorem put_any (v : Value) (l : List Lb) (k s : ByteArray) (w : World) (hc : Came w v l) (hg : Good l) (ho : OkL l) (hk : k.size ≤ maxLen) (hs : s.size ≤ maxLen) :
    Calls Tryz.prog 23 #[v, .string k, .string s] w fun e w' => ∃ v' l', e = .returned (.tuple #[v', .int .i64 (putE l k s)]) ∧ Below w.heap.size w w' ∧ ((putE l k s ≠ 0 ∧ v' = .slice none 0 0) ∨ (putE l k s = 0 ∧ Own w' w.heap.size v' l' ∧ Sorted (delL l k ++ [(k, s)]) l')) := by
  obtain ⟨i0, hi0, hz0, hz1, hz2⟩ := info_parts infoL
  have HC := hid (check_any v l w hc.items hg)
  rw [check_ok ho] at HC
  have HL := hid (fun W => label_any k s W hk hs)
  have HD := hid (fun W (hb : Below w.heap.size w W) => delf_any v l k W (hc.low hb).items hg hk)
  have hdl : (delL l k).length ≤ 32 := Nat.le_trans (del_len l k) ho.len
  have HSR := hid (fun W v' (h : Came W v' (delL l k ++ [(k, s)])) => sorted_any v' (delL l k ++ [(k, s)]) W h ⟨⟨by rw [List.length_append]; unfold maxLen; simp; omega, by rw [List.length_append]; simp; omega⟩, fun x hx => by
    rcases List.mem_append.1 hx with h | h
    · exact hg.2 x (List.mem_filter.1 h).1
    · rw [List.mem_singleton.1 h]; exact ⟨hk, hs⟩⟩)
  rcases labE_cases k s with e1 | e1 | e1
  · rw [e1] at HL
    have HE := hid (show putE l k s = if (delL l k).length = 32 then 34 else 0 by unfold putE; rw [if_pos e1])
    generalize putE l k s = E at *
    generalize delL l k = D at *
    clear e1 hc hg ho
    go_enter Tryz.func23, Tryz.ntmps23
    go_wp2_with fail
    refine HC.out.mono ?_
    rintro e w1 ⟨rfl, hb⟩
    have B1 := hid hb
    clear hb
    go_wp2_with fail
    refine (HL.out _).mono ?_
    rintro e w2 ⟨rfl, hb⟩
    have hx0 : w2.cell? ⟨w1.heap.size, 0, none⟩ = some (.string k) := by
      rw [hb.cell (p := ⟨w1.heap.size, 0, none⟩) (by simp)]
      simp
    have hx1 : w2.cell? ⟨w1.heap.size, 1, none⟩ = some (.string s) := by
      rw [hb.cell (p := ⟨w1.heap.size, 1, none⟩) (by simp)]
      simp
    have hzw : w1.heap.size < w2.heap.size := Nat.lt_of_lt_of_le (by simp) hb.size
    have B2 := hid ((B1.out.alloc B1.out.size _).trans (hb.mono (B1.out.alloc B1.out.size _).size))
    clear hb
    go_wp2_with fail
    refine (HD.out _ B2.out).mono ?_
    rintro e w3 ⟨v3, rfl, ho3, hb⟩
    rw [← hb.cell (p := ⟨w1.heap.size, 0, none⟩) hzw] at hx0
    rw [← hb.cell (p := ⟨w1.heap.size, 1, none⟩) hzw] at hx1
    have B3 := hid (B2.out.trans (hb.mono B2.out.size))
    have D3 := hid hb
    have O3 := hid ho3
    have hz3 : w1.heap.size < w3.heap.size := Nat.lt_of_lt_of_le hzw hb.size
    obtain ⟨a3, c3, e3, _⟩ := own_items ho3
    subst e3
    have hl3 : w2.heap.size ≤ w3.heap.size := hb.size
    clear hb ho3
    by_cases h32 : D.length = 32
    · rw [if_pos h32] at HE
      have b32 : ((D.length : Int) == 32) = true := by simp; omega
      clear h32
      go_wp2_with fail
      go_ret2
      exact ⟨_, [], by rw [HE.out]; rfl, B3.out, Or.inl ⟨by rw [HE.out]; decide, rfl⟩⟩
    · rw [if_neg h32] at HE
      have b32 : ((D.length : Int) == 32) = false := by simp; omega
      clear h32
      go_wp2_with (first
        | (at_builtin; refine wpList_append_own _ rfl _ _ 22 rfl w2.heap.size 36 i0 (.agg #[.string ByteArray.empty, .string ByteArray.empty]) 2 32 Tryz.underlying22 hi0 hz0 hz1 hz2 rfl (by decide) _ _ _ rfl (World.ownsRow.alloc O3.out _) ⟨w3.heap.size, 0, none⟩ 1 1 [.string k, .string s] rfl rfl (cell_two_at _ _ _ _ _ (by simp)) (fun x hx => by simp at hx; rcases hx with rfl | rfl <;> rfl) (by unfold maxLen at *; omega) (by omega) (by simp; omega) ?_; intro v' w4 hown' hgrow4 hnil4)
        | (go_at_call 18; refine (HSR.out _ v' (own_came (own_snoc (x := (k, s)) hown'))).mono ?_; rintro e w5 ⟨v5, l5, rfl, hcm, hst, hb5⟩)
        | go_in)
      have B4 : Below w.heap.size w w4 := (B3.out.alloc B3.out.size _).grown hgrow4 (by have := B3.out.size; simp; omega) (fun j hj => Nat.le_trans B2.out.size (own_base O3.out j hj))
      go_ret2
      exact ⟨_, l5, by rw [HE.out]; rfl, B4.trans (hb5.mono B4.size), Or.inr ⟨HE.out, own_mono hcm B4.size, hst⟩⟩
  · rw [e1] at HL
    have HE := hid (show putE l k s = 31 by unfold putE; rw [e1, if_neg (by decide)])
    generalize putE l k s = E at *
    clear e1 hc hg ho
    go_enter Tryz.func23, Tryz.ntmps23
    go_wp2_with fail
    refine HC.out.mono ?_
    rintro e w1 ⟨rfl, hb⟩
    have B1 := hid hb
    clear hb
    go_wp2_with fail
    refine (HL.out _).mono ?_
    rintro e w2 ⟨rfl, hb⟩
    have B2 := hid ((B1.out.alloc B1.out.size _).trans (hb.mono (B1.out.alloc B1.out.size _).size))
    clear hb
    go_wp2_with fail
    go_ret2
    exact ⟨_, [], by rw [HE.out]; rfl, B2.out, Or.inl ⟨by rw [HE.out]; decide, rfl⟩⟩
  · rw [e1] at HL
    have HE := hid (show putE l k s = 32 by unfold putE; rw [e1, if_neg (by decide)])
    generalize putE l k s = E at *
    clear e1 hc hg ho
    go_enter Tryz.func23, Tryz.ntmps23
    go_wp2_with fail
    refine HC.out.mono ?_
    rintro e w1 ⟨rfl, hb⟩
    have B1 := hid hb
    clear hb
    go_wp2_with fail
    refine (HL.out _).mono ?_
    rintro e w2 ⟨rfl, hb⟩
    have B2 := hid ((B1.out.alloc B1.out.size _).trans (hb.mono (B1.out.alloc B1.out.size _).size))
    clear hb
    go_wp2_with fail
    go_ret2
    exact ⟨_, [], by rw [HE.out]; rfl, B2.out, Or.inl ⟨by rw [HE.out]; decide, rfl⟩⟩
end Go.Proofs.YtkbjjbgmnfngjaaGreatDoor.L
