import Derived.Test.YtkbjjbgmnfngjaaGreatDoorRri
import Derived.Test.YtkbjjbgmnfngjaaGreatDoorRck
import Derived.Test.YtkbjjbgmnfngjaaGreatDoorCkk
import Derived.Test.YtkbjjbgmnfngjaaGreatDoorPut
namespace Go.Proofs.YtkbjjbgmnfngjaaGreatDoor.L
open Go.RowKit
set_option linter.unusedVariables false
set_option maxHeartbeats 4000000 in
theorem rget_any (v : Value) (l : List Lb) (s : ByteArray) (w : World) (hi : Items w v l) (hl : l.length ≤ maxLen) : Calls Tryz.prog 49 #[v, .string s] w fun e w' => e = .returned (.tuple #[.string (getN l s).1, .bool (getN l s).2]) ∧ w' = w := by
  have F := hid (rfind_any v l s w hi hl)
  rcases find_cases l s with ⟨h1, h2, _⟩ | ⟨j, hj, h1, h2, _⟩
  · rw [h1] at F
    rw [h2]
    clear h1 h2
    go_enter Tryz.func49, Tryz.ntmps49
    go_wp2_with fail
    refine F.out.mono ?_
    rintro e w1 ⟨rfl, hw⟩; subst hw
    go_wp2_with fail
    go_ret2
    exact ⟨rfl, rfl⟩
  · rw [h1] at F
    rw [h2]
    clear h1 h2
    obtain ⟨a, cap, rfl, hi⟩ := hi
    rcases hi with h0 | ⟨b, off, rfl, hbl, hc⟩
    · omega
    obtain ⟨-, c1⟩ := hc j hj
    have g0 : (0 : Int) ≤ (j : Int) := by omega
    generalize vl l j = x at *
    generalize l.length = len at *
    clear hc
    go_enter Tryz.func49, Tryz.ntmps49
    go_wp2_with fail
    refine F.out.mono ?_
    rintro e w1 ⟨rfl, hw⟩; subst hw
    go_wp2_with fail
    go_ret2
    exact ⟨rfl, rfl⟩
set_option maxHeartbeats 4000000 in
set_option maxRecDepth 100000 in
theorem rwithout_any (v : Value) (l : List Lb) (s : ByteArray) (w : World) (hi : Items w v l) (hg : Good l) :
    Calls Tryz.prog 47 #[v, .string s] w fun e w' => ∃ v', e = .returned v' ∧ Own w' w.heap.size v' (delL l s) ∧ Below w.heap.size w w' := by
  obtain ⟨i0, hi0, hz0, hz1, hz2⟩ := info_parts infoL
  obtain ⟨a, cap, rfl, hi⟩ := hi
  have hl := hg.1.1
  have hl2 := hg.1.2
  obtain ⟨len, hlen⟩ : ∃ n, n = l.length := ⟨_, rfl⟩
  rw [← hlen] at hi hl hl2 ⊢
  have HLEN := hid hlen
  have HI := hid hi
  clear hlen hg hi
  unfold maxLen at hl
  go_enter Tryz.func47, Tryz.ntmps47
  go_wp2
  go_loopw [5, 6] (fun o i wr => ∃ k : Nat, k ≤ len ∧ i = .int .i64 k ∧ Hid (Below w.heap.size w wr) ∧ Hid (Own wr w.heap.size o (delL (l.take k) s))) (fun _ i _ => len - (intOf i).toNat)
  case atStart => exact ⟨0, Nat.zero_le _, rfl, hid (Below.refl _ _), hid (World.ownsRow_nil _ _ _ _)⟩
  case round =>
    obtain ⟨k, hk, rfl, HB, OW⟩ := hrel
    have hws : w.heap.size ≤ wr.heap.size := HB.out.size
    by_cases hlt : k < len
    · rcases HI.out with h0 | ⟨b, off, rfl, hbl, hc⟩
      · omega
      obtain ⟨c0, c1⟩ := hc k hlt
      rw [← HB.out.cell (p := ⟨b, off + k * 2, none⟩) hbl] at c0
      rw [← HB.out.cell (p := ⟨b, off + k * 2 + 1, none⟩) hbl] at c1
      have hsz : b < wr.heap.size := Nat.lt_of_lt_of_le hbl HB.out.size
      have hkl : k < l.length := by rw [← HLEN.out]; exact hlt
      have dn := del_no l s k hkl
      have dy := del_yes l s k hkl
      have sk : (delL (l.take k) s).length ≤ k := Nat.le_trans (del_len _ _) (by rw [List.length_take]; omega)
      unfold eqS at dn dy
      generalize delL (l.take k) s = S at *
      cases e1 : ((ky l k).toList == s.toList)
      · have HT := hid (dy e1)
        have e1' : ((ky l k).toList != s.toList) = true := by simp [bne, e1]
        generalize ky l k = s' at *
        generalize vl l k = n at *
        clear hc dn dy
        go_wp2_with (first
          | (at_builtin; refine wpList_append_own _ rfl _ _ 22 rfl w.heap.size 36 i0 (.agg #[.string ByteArray.empty, .string ByteArray.empty]) 2 32 Tryz.underlying22 hi0 hz0 hz1 hz2 rfl (by decide) _ _ _ rfl (World.ownsRow.alloc OW.out _) ⟨wr.heap.size, 0, none⟩ 1 1 [.string s', .string n] rfl rfl (cell_two_at _ _ _ _ _ (by simp)) (fun x hx => by simp at hx; rcases hx with rfl | rfl <;> rfl) (by unfold maxLen at *; omega) (by omega) (by simp; omega) ?_; intro v' w3 hown' hgrow3 hnil3)
          | go_in)
        clear hnil3
        have B3 : Below w.heap.size w w3 := (HB.out.alloc hws _).grown hgrow3 (by simp; omega) (fun j hj => own_base OW.out j hj)
        exact ⟨⟨k + 1, by omega, by go_num, hid B3, hid (by rw [HT.out]; exact own_snoc (x := (s', n)) hown')⟩, by simp [intOf]; omega⟩
      · have HT := hid (dn e1)
        have e1' : ((ky l k).toList != s.toList) = false := by simp [bne, e1]
        generalize ky l k = s' at *
        generalize vl l k = n at *
        clear hc dn dy
        go_wp2_with fail
        exact ⟨⟨k + 1, by omega, by go_num, HB, hid (by rw [HT.out]; exact OW.out)⟩, by simp [intOf]; omega⟩
    · obtain rfl : k = len := by omega
      have o := OW.out
      rw [show l.take k = l by rw [HLEN.out, List.take_length]] at o
      have O := hid o
      clear o OW
      go_wp2_with fail
      go_ret
      exact ⟨_, rfl, O.out, HB.out⟩
theorem del_self {l : List Lb} {s : ByteArray} (h : ∀ i, i < l.length → ky l i ≠ s) : delL l s = l := by
  unfold delL
  apply List.filter_eq_self.2
  intro x hx
  obtain ⟨i, hi, rfl⟩ := mem_kv hx
  have := eqS_ne.2 (h i hi)
  simp [this]
theorem del_less {l : List Lb} {s : ByteArray} {j : Nat} (hj : j < l.length) (h : ky l j = s) : (delL l s).length < l.length := by
  unfold delL
  apply List.length_filter_lt_length_iff_exists.2
  exact ⟨_, kv_mem l j hj, by simp [eqS_iff.2 h]⟩
theorem del_find (l : List Lb) (s : ByteArray) : decide ((delL l s).length < l.length) = decide (0 ≤ findN l s) := by
  rcases find_cases l s with ⟨h1, _, h3⟩ | ⟨j, hj, h1, _, h4, _⟩
  · rw [h1, del_self h3]
    simp
  · rw [h1, decide_eq_true (del_less hj h4), decide_eq_true (by omega)]
set_option maxHeartbeats 4000000 in
theorem rdel_any (v : Value) (l : List Lb) (s : ByteArray) (w : World) (hi : Items w v l) (hg : Good l) :
    Calls Tryz.prog 29 #[v, .string s] w fun e w' => ∃ v', e = .returned (.tuple #[v', .bool (decide ((delL l s).length < l.length))]) ∧ Own w' w.heap.size v' (delL l s) ∧ Below w.heap.size w w' := by
  have F1 := hid (rfind_any v l s w hi hg.1.1)
  have F2 := hid (rwithout_any v l s w hi hg)
  have HE := hid (del_find l s)
  generalize findN l s = fN at *
  clear hi
  go_enter Tryz.func29, Tryz.ntmps29
  go_wp2_with fail
  refine F1.out.mono ?_
  rintro e w1 ⟨rfl, hw⟩; subst hw
  go_wp2_with fail
  refine F2.out.mono ?_
  rintro e w2 ⟨v', rfl, ho, hb⟩
  have R := hid (And.intro ho hb)
  clear ho hb
  go_wp2_with fail
  go_ret2
  exact ⟨_, by rw [HE.out]; rfl, R.out.1, R.out.2⟩
/-- What Put answers, of any list. -/
def putA (l : List Lb) (k s : ByteArray) : Int := if (checkN l).2 = 0 then putE l k s else (checkN l).2
set_option maxHeartbeats 4000000 in
theorem put_no (v : Value) (l : List Lb) (k s : ByteArray) (w : World) (hi : Items w v l) (hg : Good l) (h : (checkN l).2 ≠ 0) :
    Calls Tryz.prog 23 #[v, .string k, .string s] w fun e w' => e = .returned (.tuple #[.slice none 0 0, .int .i64 (checkN l).2]) ∧ Below w.heap.size w w' := by
  have HC := hid (check_any v l w hi hg)
  have hne : ((checkN l).2 != 0) = true := by simpa using h
  generalize checkN l = r at *
  clear h hi
  go_enter Tryz.func23, Tryz.ntmps23
  go_wp2_with fail
  refine HC.out.mono ?_
  rintro e w1 ⟨rfl, hb⟩
  have B1 := hid hb
  clear hb
  go_wp2_with fail
  go_ret2
  exact ⟨rfl, B1.out⟩
theorem put_all (v : Value) (l : List Lb) (k s : ByteArray) (w : World) (hc : Came w v l) (hg : Good l) (hk : k.size ≤ maxLen) (hs : s.size ≤ maxLen) :
    Calls Tryz.prog 23 #[v, .string k, .string s] w fun e w' => ∃ v' l', e = .returned (.tuple #[v', .int .i64 (putA l k s)]) ∧ Below w.heap.size w w' ∧ ((putA l k s ≠ 0 ∧ v' = .slice none 0 0) ∨ (putA l k s = 0 ∧ Own w' w.heap.size v' l' ∧ Sorted (delL l k ++ [(k, s)]) l')) := by
  unfold putA
  rcases check_cases l with ⟨ho, e⟩ | h
  · rw [e, if_pos rfl]
    exact put_any v l k s w hc hg ho hk hs
  · rw [if_neg h]
    refine (put_no v l k s w hc.items hg h).mono ?_
    rintro e w' ⟨rfl, hb⟩
    exact ⟨_, [], rfl, hb, Or.inl ⟨h, rfl⟩⟩
theorem dist_put {l : List Lb} (h : Up l) (k s : ByteArray) : Dist (delL l k ++ [(k, s)]) := by
  have hd : Dist l := h.imp fun {x y} h e => by
    unfold Lt at h
    rw [e, less_irrefl] at h
    cases h
  refine List.pairwise_append.2 ⟨List.Pairwise.sublist List.filter_sublist hd, List.pairwise_singleton _ _, fun a ha b hb => ?_⟩
  rw [List.mem_singleton.1 hb]
  have := (List.mem_filter.1 ha).2
  intro e
  simp at this
  rw [eqS_iff.2 e] at this
  cases this
theorem put_len {l : List Lb} (h : l.length ≤ 32) (k s : ByteArray) : (delL l k ++ [(k, s)]).length ≤ 64 := by
  have := del_len l k
  rw [List.length_append, List.length_singleton]
  omega
end Go.Proofs.YtkbjjbgmnfngjaaGreatDoor.L
