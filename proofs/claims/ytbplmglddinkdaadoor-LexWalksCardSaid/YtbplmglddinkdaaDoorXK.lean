import Derived.Test.YtbplmglddinkdaaDoorXI
namespace Go.Proofs.YtbplmglddinkdaaDoor.L
open Go.RowKit Go.Shelf
set_option linter.unusedVariables false
set_option maxHeartbeats 2000000 in
/-- The document's gap. -/
theorem rgap_any (s : ByteArray) (k0 : Nat) (w : World) (hs : s.size ≤ 4096) (hk0 : k0 ≤ s.size) : Calls Tryd.prog 20 #[.string s, .int .i64 (k0 : Int)] w fun e w' => e = .returned (.int .i64 (gapS s k0)) ∧ w' = w := by
  go_enter Tryd.func20, Tryd.ntmps20
  go_wp2_with fail
  go_loop [1] (fun i => ∃ k : Nat, k ≤ s.size ∧ i = .int .i64 k ∧ Hid (gapS s k0 = gapS s k)) (fun i => s.size - (intOf i).toNat)
  case atStart => exact ⟨k0, hk0, rfl, hid rfl⟩
  case round =>
    obtain ⟨k, hk, rfl, HT⟩ := hrel
    by_cases hlt : k < s.size
    · have hc := iv_get s k hlt
      obtain ⟨x, hx⟩ : ∃ x, iv (bt s k) = x := ⟨_, rfl⟩
      rw [hx] at hc
      by_cases c35 : x = 35
      · have i35 : bt s k = 35 := iv_eq (n := 35) hx c35 (by decide)
        have HT := hid (HT.out.trans (gapS_rem s k hlt i35))
        have HG := hid (nlAt_gt s k hlt (by rw [i35]; decide))
        clear hx i35
        subst c35
        go_wp2_with fail
        go_loop [1] (fun i => ∃ j : Nat, k ≤ j ∧ j ≤ s.size ∧ i = .int .i64 j ∧ Hid (nlAt s k = nlAt s j)) (fun i => s.size - (intOf i).toNat)
        case atStart => exact ⟨k, Nat.le_refl _, hk, rfl, hid rfl⟩
        case round =>
          clear hc
          obtain ⟨j, h1, h2, rfl, HN⟩ := hrel
          by_cases jl : j < s.size
          · have hc := iv_get s j jl
            obtain ⟨y, hy⟩ : ∃ y, iv (bt s j) = y := ⟨_, rfl⟩
            rw [hy] at hc
            by_cases c10 : y = 10
            · have HN := hid (HN.out.trans (nlAt_yes s j jl (iv_eq (n := 10) hy c10 (by decide))))
              clear hy
              subst c10
              go_wp2
              refine ⟨⟨j, h2, rfl, by rw [HT.out, HN.out]; exact hid rfl⟩, ?_⟩
              have := HG.out
              rw [HN.out] at this
              simp [intOf]
              omega
            · have HN := hid (HN.out.trans (nlAt_go s j jl (iv_ne (n := 10) hy c10 (by decide))))
              have c10' : (y == 10) = false := by simpa using c10
              clear hy
              go_wp2
              exact ⟨⟨j + 1, by omega, by omega, by go_num, HN⟩, by simp [intOf]; omega⟩
          · have HN := hid (HN.out.trans (nlAt_end s j jl))
            go_wp2
            refine ⟨⟨j, h2, rfl, by rw [HT.out, HN.out]; exact hid rfl⟩, ?_⟩
            simp [intOf]
            omega
      · have n35 := iv_ne (n := 35) hx c35 (by decide)
        have c35' : (x == 35) = false := by simpa using c35
        cases cb : blkB x
        · have HT := hid (HT.out.trans (gapS_no s k hlt n35 (by rw [hx]; exact cb)))
          unfold blkB at cb
          simp only [Bool.or_eq_false_iff] at cb
          obtain ⟨⟨⟨b1, b2⟩, b3⟩, b4⟩ := cb
          clear hx n35
          go_wp2
          go_ret
          exact ⟨by rw [HT.out]; rfl, rfl⟩
        · have HT := hid (HT.out.trans (gapS_blk s k hlt (by rw [hx]; exact cb)))
          unfold blkB at cb
          simp only [Bool.or_eq_true, beq_iff_eq] at cb
          clear hx n35
          rcases cb with ((h | h) | h) | h <;> subst h <;> go_wp2 <;> exact ⟨⟨k + 1, by omega, by go_num, HT⟩, by simp [intOf]; omega⟩
    · have HT := hid (HT.out.trans (gapS_end s k hlt))
      go_wp2
      go_ret
      exact ⟨by rw [HT.out]; rfl, rfl⟩
theorem take_snoc (D : ByteArray) (k : Nat) (h : k < D.size) : D.data.toList.take (k + 1) = D.data.toList.take k ++ [bt D k] := by
  have hk : k < D.data.toList.length := by rw [Array.length_toList]; exact h
  rw [List.take_succ_eq_append_getElem hk]
  unfold bt
  rw [List.getD_eq_getElem?_getD, List.getElem?_eq_getElem hk]
  rfl
theorem allD_snoc (l : List UInt8) (c : UInt8) : allD (l ++ [c]) = (allD l && digB (iv c)) := by
  unfold allD
  rw [List.all_append]
  simp
theorem valF_snoc (n : Nat) (l : List UInt8) (c : UInt8) : valF n (l ++ [c]) = valF n l * 10 + (c.toNat - 48) := by
  unfold valF
  rw [List.foldl_append]
  rfl
theorem valF_lt : ∀ (l : List UInt8) (n : Nat), allD l = true → valF n l < (n + 1) * 10 ^ l.length
  | [], n, _ => by simp [valF]
  | c :: r, n, h => by
    have h' : digB (iv c) = true ∧ allD r = true := by simpa [allD] using h
    have := valF_lt r (n * 10 + (c.toNat - 48)) h'.2
    have hd := (dig_nat c).1 h'.1
    show valF (n * 10 + (c.toNat - 48)) r < _
    rw [List.length_cons, Nat.pow_succ]
    refine Nat.lt_of_lt_of_le this ?_
    rw [show (n + 1) * (10 ^ r.length * 10) = (n * 10 + 10) * 10 ^ r.length by rw [Nat.mul_comm (10 ^ r.length) 10, ← Nat.mul_assoc]; congr 1; omega]
    exact Nat.mul_le_mul_right _ (by omega)
def numV : Option Int → Value
  | some n => .tuple #[.int .i64 n, .bool true]
  | none => .tuple #[.int .i64 0, .bool false]
theorem allD_no (D : ByteArray) (k : Nat) (h : k < D.size) (c : digB (iv (bt D k)) = false) : allD D.data.toList = false := by
  rw [← List.take_append_drop k D.data.toList, drop_bt D k h]
  unfold allD
  rw [List.all_append, List.all_cons, c]
  simp
theorem numS_none (t : ByteArray) (h : 18 < (dgs t).length ∨ dgs t = [] ∨ allD (dgs t) = false) : numS t = none := by
  unfold numS
  by_cases c : dgs t = [48]
  · rw [c] at h
    simp [allD] at h
    exact absurd h (by decide)
  · rw [if_neg c, if_pos]
    rcases h with h | h | h
    · exact Or.inl h
    · exact Or.inr (Or.inr (Or.inl h))
    · exact Or.inr (Or.inr (Or.inr h))
theorem numS_zero (t : ByteArray) (h : (dgs t).head? = some 48) (hn : bt t 0 = 45 ∨ dgs t ≠ [48]) : numS t = none := by
  unfold numS
  by_cases c : dgs t = [48]
  · rw [if_pos c]
    rcases hn with hn | hn
    · rw [if_pos hn]
    · exact absurd c hn
  · rw [if_neg c, if_pos (Or.inr (Or.inl h))]
theorem numS_some (t : ByteArray) (h1 : ¬ 18 < (dgs t).length) (h2 : (dgs t).head? ≠ some 48) (h3 : dgs t ≠ []) (h4 : allD (dgs t) = true) : numS t = some (if bt t 0 = 45 then -(valF 0 (dgs t) : Int) else valF 0 (dgs t)) := by
  unfold numS
  rw [if_neg (by intro e; rw [e] at h2; exact h2 rfl), if_neg]
  rintro (h | h | h | h)
  · exact h1 h
  · exact h2 h
  · exact h3 h
  · rw [h4] at h; cases h
end Go.Proofs.YtbplmglddinkdaaDoor.L
