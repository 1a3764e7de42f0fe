import Derived.Test.YtkagdmhijjfnnabDoorSet
namespace Go.Proofs.YtkagdmhijjfnnabDoor
open Go.RowKit Bs
/-- Those of the first k numbers that lie in the universe. -/
def inU (n : Nat) (zs : List Int) (k : Nat) : List Int := (zs.take k).filter fun z => decide (0 ≤ z) && decide (z < n)
theorem inU_zero (n : Nat) (zs : List Int) : inU n zs 0 = [] := by simp [inU]
theorem inU_len (n : Nat) (zs : List Int) (k : Nat) : (inU n zs k).length ≤ k := by
  unfold inU
  have := List.length_filter_le (fun z => decide (0 ≤ z) && decide (z < (n : Int))) (zs.take k)
  have := List.length_take_le k zs
  omega
theorem inU_hit (n : Nat) (zs : List Int) (k : Nat) (hk : k < zs.length) (h0 : 0 ≤ zs.getD k 0) (h1 : zs.getD k 0 < n) : inU n zs (k + 1) = inU n zs k ++ [zs.getD k 0] := by
  have e : zs.getD k 0 = zs[k] := by simp [List.getElem?_eq_getElem hk]
  rw [e] at h0 h1 ⊢
  unfold inU
  rw [List.take_succ_eq_append_getElem hk, List.filter_append]
  simp [h0, h1]
theorem inU_miss (n : Nat) (zs : List Int) (k : Nat) (hk : k < zs.length) (h : ¬ (0 ≤ zs.getD k 0 ∧ zs.getD k 0 < n)) : inU n zs (k + 1) = inU n zs k := by
  have e : zs.getD k 0 = zs[k] := by simp [List.getElem?_eq_getElem hk]
  rw [e] at h
  unfold inU
  rw [List.take_succ_eq_append_getElem hk, List.filter_append]
  simp
  omega
theorem inU_mem (n : Nat) (zs : List Int) (k : Nat) (z : Int) (h : z ∈ inU n zs k) : 0 ≤ z ∧ z < n := by
  simp [inU] at h; omega
theorem holds_of_owns {w : World} {base : Nat} {v : Value} {n : Nat} {zs : List Int} (h : w.ownsRow base 3 1 v n (zs.map (Value.int .i64))) : Holds w v zs := by
  obtain ⟨hl, h⟩ := h
  simp at hl
  constructor
  rcases h with ⟨rfl, rfl⟩ | ⟨g, cap, cur, rfl, _, hh, _, _, _, ht⟩
  · exact Or.inl ⟨rfl, List.eq_nil_of_length_eq_zero hl⟩
  · refine Or.inr ⟨g, 0, cap, by rw [hl], fun j hj => ?_⟩
    rw [Nat.mul_one] at ht
    rw [Nat.zero_add, cell_of_row w g j _ _ _ hh]
    have e1 : (cur.toList.take n)[j]? = cur.toList[j]? := by rw [List.getElem?_take, if_pos (by omega)]
    rw [ht] at e1
    rw [← Array.getElem?_toList, ← e1]
    simp [List.getElem?_eq_getElem hj]
theorem owns_same {w : World} {base : Nat} {v : Value} {l l' : List Int} (e : l' = l) (h : w.ownsRow base 3 1 v l.length (l.map (Value.int .i64))) : w.ownsRow base 3 1 v l'.length (l'.map (Value.int .i64)) := by
  subst e; exact h
theorem owns_block {w : World} {base : Nat} {v : Value} {n : Nat} {xs : List Value} (h : w.ownsRow base 3 1 v n xs) : ∀ k, v.ownBlock = some k → base ≤ k := by
  obtain ⟨_, h⟩ := h
  intro k hk
  rcases h with ⟨rfl, _⟩ | ⟨g, cap, cur, rfl, hg, _⟩
  · cases hk
  · simp [Value.ownBlock] at hk; omega
theorem info3 : ∃ i : TypeInfo, Tryd.prog.info? 3 = some i ∧ i.zero = some (.int .i64 0) ∧ i.size = 1 ∧ i.bytes = 8 := by
  refine ⟨(Tryd.prog.info? 3).getD default, ?_, ?_, ?_, ?_⟩ <;> kernel_rfl
set_option maxRecDepth 100000 in
set_option maxHeartbeats 1000000 in
theorem of_some (n b off cap : Nat) (zs : List Int) (w : World) (hn : n ≤ 65536) (hreach : zs.length * 8 ≤ 140737488351232) (hc : ∀ j, j < zs.length → w.cell? ⟨b, off + j, none⟩ = some (.int .i64 (zs.getD j 0))) :
    Calls Tryd.prog 8 #[.int .i64 n, .slice (some ⟨b, off, none⟩) zs.length cap] w fun e w' => ∃ p q, e = .returned (.pointer (some ⟨p, 0, none⟩)) ∧ w.heap.size ≤ p ∧ w.heap.size ≤ q ∧ SetAt w' p q n (fun i => decide ((i : Int) ∈ inU n zs zs.length)) ∧ Below w.heap.size w w' := by
  obtain ⟨i0, hi, hz0, hz1, hz2⟩ := info3
  have HC := hid hc
  clear hc
  obtain ⟨L, hL⟩ : ∃ L, L = zs.length := ⟨_, rfl⟩
  have HL := hid hL
  rw [← hL] at hreach ⊢
  clear hL
  go_enter Tryd.func8, Tryd.ntmps8
  go_wp2_with fail
  go_loopw [5, 6] (fun v i wr => ∃ k : Nat, k ≤ L ∧ i = .int .i64 k ∧ wr.ownsRow w.heap.size 3 1 v (inU n zs k).length ((inU n zs k).map (Value.int .i64)) ∧ Below w.heap.size w wr) (fun _ i _ => L - (intOf i).toNat)
  case atStart => exact ⟨0, Nat.zero_le _, rfl, World.ownsRow_nil _ _ _ _, Below.refl _ _⟩
  case round =>
    obtain ⟨k, hk, rfl, hown, hb⟩ := hrel
    by_cases hlt : k < L
    · have hi1 : k < zs.length := by rw [← HL.out]; exact hlt
      have hcell := HC.out k hi1
      have hcw := (hb.cell (p := ⟨b, off + k, none⟩) (block_lt_of_cell hcell)).trans hcell
      obtain ⟨z, hz⟩ : ∃ z, z = zs.getD k 0 := ⟨_, rfl⟩
      rw [← hz] at hcw
      have HZ := hid hz
      have HI1 := hid hi1
      clear hz hcell hi1
      have hlen := inU_len n zs k
      by_cases h0 : 0 ≤ z
      · by_cases h1 : z < n
        · go_wp2_with (at_builtin; refine wpList_append_own _ rfl _ _ 22 rfl w.heap.size 3 i0 (.int .i64 0) 1 8 Tryd.underlying22 hi hz0 hz1 hz2 rfl (by decide) _ _ _ rfl (hown.alloc _) ⟨wr.heap.size, 0, none⟩ 1 1 [.int .i64 z] rfl rfl ?c1 ?c2 ?c3 ?c4 ?c5 ?_)
          case c1 => exact cell_one_new _ _ _
          case c2 => intro u hu; simp at hu; subst hu; rfl
          case c3 => unfold maxLen; omega
          case c4 => omega
          case c5 => have := hb.size; simp; omega
          intro v' w1 hown' hgrow _
          have hK := inU_hit n zs k HI1.out (by rw [← HZ.out]; exact h0) (by rw [← HZ.out]; exact h1)
          have hb1 : Below w.heap.size w w1 := (hb.alloc hb.size _).grown hgrow (by have := hb.size; simp; omega) (owns_block hown)
          have R : w1.ownsRow w.heap.size 3 1 v' (inU n zs (k + 1)).length ((inU n zs (k + 1)).map (Value.int .i64)) := by
            rw [hK, List.length_append, List.map_append, ← HZ.out]; exact hown'
          have RR := hid R
          clear hown' hgrow hown R hK
          go_wp2
          go_roundw
          case rel => exact ⟨k + 1, by omega, by go_num, RR.out, hb1⟩
          case measure => simp [intOf]; omega
        · have hK := inU_miss n zs k HI1.out (by rw [← HZ.out]; omega)
          have R := owns_same hK hown
          have RR := hid R
          clear hown R hK
          go_wp2
          go_roundw
          case rel => exact ⟨k + 1, by omega, by go_num, RR.out, hb⟩
          case measure => simp [intOf]; omega
      · have hK := inU_miss n zs k HI1.out (by rw [← HZ.out]; omega)
        have R := owns_same hK hown
        have RR := hid R
        clear hown R hK
        go_wp2
        go_roundw
        case rel => exact ⟨k + 1, by omega, by go_num, RR.out, hb⟩
        case measure => simp [intOf]; omega
    · have e : k = L := by omega
      subst e
      have HO := hid hown
      have HB := hid hb
      have hl := inU_len n zs k
      clear hown hb
      go_wp2_with (go_at_call 37; refine (from_any n _ (inU n zs k) _ hn (by omega) (holds_of_owns HO.out) (fun z hz => inU_mem n zs k z hz)).mono ?_; rintro e w2 ⟨rfl, ⟨ws, hs, hm⟩, hb2⟩)
      go_ret
      exact ⟨_, _, rfl, by have := HB.out.size; omega, by have := HB.out.size; omega, ⟨ws, hs, hm⟩, belowT HB.out hb2⟩
end Go.Proofs.YtkagdmhijjfnnabDoor
