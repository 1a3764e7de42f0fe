import Derived.Test.YtfbagkajbnomoaaQ20
import Derived.Test.YtfbagkajbnomoaaQ25
namespace Go.Proofs.Ytfbagkajbnomoaa.L
open Go.RowKit Rg Qu
set_option linter.unusedVariables false
set_option linter.unusedSimpArgs false
/-! A list of texts of one's own; the list without one of them. -/
def strV (x : ByteArray) : Array Value := #[.string x]
theorem strV_size (x : ByteArray) : (strV x).size = 1 := rfl
theorem strV_one (x : ByteArray) : ∀ u ∈ (strV x).toList, u.oneCell' = true := by
  intro u hu
  simp [strV] at hu
  subst hu
  rfl
theorem infoS : (Try.prog.info? 9).map (fun i => (i.zero, i.size, i.bytes)) = some (some (.string ⟨#[]⟩), 1, 16) := by kernel_rfl
theorem rowS_len (l : List ByteArray) : (rowX strV l).length = l.length * 1 := rowX_len strV_size l
theorem rowS_one (l : List ByteArray) : ∀ u ∈ rowX strV l, u.oneCell' = true := rowX_one strV_one l
theorem own_s {W : World} {base n : Nat} {e : TypeId} {v : Value} {l : List ByteArray} (h : W.ownsRow base e 1 v n (rowX strV l)) : n = l.length ∧ ∃ a ca, v = .slice a l.length ca ∧ RdG strV 1 W a l := own_rdg strV_size (by decide) h
theorem cell_s {W : World} {a : Option Addr} {l : List ByteArray} (h : RdG strV 1 W a l) {k : Nat} (hk : k < l.length) : ∃ b off, a = some ⟨b, off, none⟩ ∧ b < W.heap.size ∧ W.cell? ⟨b, off + k, none⟩ = some (.string l[k]) := by
  rcases h with h0 | ⟨b, off, e, hb, hc⟩
  · omega
  · have g : l.getD k default = l[k] := by rw [List.getD_eq_getElem?_getD, List.getElem?_eq_getElem hk]; rfl
    have c := hc k hk 0 (by omega)
    rw [g, Nat.mul_one, Nat.add_zero] at c
    exact ⟨b, off, e, hb, c⟩
/-- The list without the first such text. -/
def wo (s : ByteArray) (l : List ByteArray) : List ByteArray := @List.erase _ instBEqOfDecidableEq l s
theorem wo_in {s : ByteArray} {l : List ByteArray} (h : s ∈ l) : (wo s l).length + 1 = l.length := by
  unfold wo
  have := @List.length_erase_of_mem _ instBEqOfDecidableEq _ _ _ h
  have := List.length_pos_of_mem h
  omega
theorem wo_out {s : ByteArray} {l : List ByteArray} (h : ¬ s ∈ l) : wo s l = l := by
  unfold wo
  exact @List.erase_of_not_mem _ instBEqOfDecidableEq _ _ _ h
theorem wo_le (s : ByteArray) (l : List ByteArray) : (wo s l).length ≤ l.length := by
  by_cases h : s ∈ l
  · have := wo_in h; omega
  · rw [wo_out h]; exact Nat.le_refl _
noncomputable instance memD (s : ByteArray) (l : List ByteArray) : Decidable (s ∈ l) := Classical.propDecidable _
theorem wo_snoc (s x : ByteArray) (l : List ByteArray) : wo s (l ++ [x]) = if s ∈ l then wo s l ++ [x] else if x = s then l else l ++ [x] := by
  unfold wo
  rw [@List.erase_append _ instBEqOfDecidableEq _ s l [x]]
  by_cases hn : s ∈ l
  · rw [if_pos hn, if_pos hn]
  · rw [if_neg hn, if_neg hn]
    by_cases he : x = s
    · rw [if_pos he]
      subst he
      rw [@List.erase_cons_head _ instBEqOfDecidableEq _ _ _, List.append_nil]
    · rw [if_neg he, @List.erase_of_not_mem _ instBEqOfDecidableEq _ s [x] (by simp; exact fun e => he e.symm)]
theorem wo_perm {s : ByteArray} {l m : List ByteArray} (h : l.Perm m) : (wo s l).Perm (wo s m) := by
  unfold wo
  exact @List.Perm.erase _ instBEqOfDecidableEq _ _ _ _ h
theorem wo_self (s : ByteArray) (l : List ByteArray) : wo s (s :: l) = l := by
  unfold wo
  exact @List.erase_cons_head _ instBEqOfDecidableEq _ _ _
set_option maxHeartbeats 4000000 in
set_option maxRecDepth 100000 in
theorem without_any (l : List ByteArray) (a : Option Addr) (c : Nat) (s : ByteArray) (w : World) (h : RdG strV 1 w a l) (hl : l.length ≤ 4096) :
    Calls Try.prog 23 #[.slice a l.length c, .string s] w fun e w' => ∃ v', e = .returned v' ∧ w'.ownsRow w.heap.size 9 1 v' (wo s l).length (rowX strV (wo s l)) ∧ Below w.heap.size w w' := by
  obtain ⟨i4, hi, hz0, hz1, hz2⟩ := info_parts infoS
  have HR := hid h
  obtain ⟨n, hn⟩ : ∃ n, n = l.length := ⟨_, rfl⟩
  have HN := hid hn
  rw [← hn] at hl ⊢
  have hmax : n ≤ 9223372036854775807 := by omega
  clear h hn
  go_enter Try.func23, Try.ntmps23
  go_wp2_with fail
  go_loopw [5, 6, 7] (fun s5 s6 s7 wr => ∃ k : Nat, k ≤ n ∧ s7 = .int .i64 (k : Int) ∧ Hid (s6 = .bool (decide (s ∈ l.take k))) ∧ Hid (wr.ownsRow w.heap.size 9 1 s5 (wo s (l.take k)).length (rowX strV (wo s (l.take k))) ∧ Below w.heap.size w wr)) (fun _ _ i _ => n - (intOf i).toNat)
  case atStart => exact ⟨0, Nat.zero_le _, rfl, hid (by simp), hid ⟨⟨by simp [wo, rowX], Or.inl ⟨rfl, by simp [wo]⟩⟩, Below.refl _ _⟩⟩
  case round =>
    obtain ⟨k, hk, rfl, HG, HO⟩ := hrel
    by_cases hlt : k < n
    · have g1 : (k : Int) < (n : Int) := by omega
      have g2 : (0 : Int) ≤ (k : Int) := by omega
      have hlt' : k < l.length := by rw [← HN.out]; exact hlt
      obtain ⟨b, off, hae, hbb, c0⟩ := cell_s (HR.out.low HO.out.2) hlt'
      subst hae
      obtain ⟨x, hx⟩ : ∃ x, x = l[k]'hlt' := ⟨_, rfl⟩
      rw [← hx] at c0
      have HT := hid (show l.take (k + 1) = l.take k ++ [x] from by rw [List.take_succ_eq_append_getElem hlt', hx])
      have HW := hid (wo_snoc s x (l.take k))
      obtain ⟨gg, hgg⟩ : ∃ z, z = decide (s ∈ l.take k) := ⟨_, rfl⟩
      have hG := HG.out
      rw [← hgg] at hG
      subst hG
      have HGG := hid hgg
      clear hbb hx HG hgg
      have HFIN := hid (show ∀ (W' : World) (v' : Value), W'.ownsRow w.heap.size 9 1 v' (wo s (l.take k) ++ [x]).length (rowX strV (wo s (l.take k) ++ [x])) → ¬ (gg = false ∧ x = s) → W'.ownsRow w.heap.size 9 1 v' (wo s (l.take (k + 1))).length (rowX strV (wo s (l.take (k + 1)))) ∧ gg = decide (s ∈ l.take (k + 1)) from fun W' v' ho hne => by
        have e : wo s (l.take (k + 1)) = wo s (l.take k) ++ [x] := by
          rw [HT.out, HW.out]
          by_cases hm : s ∈ l.take k
          · rw [if_pos hm]
          · rw [if_neg hm, if_neg (fun e => hne ⟨by rw [HGG.out]; simpa using hm, e⟩), wo_out hm]
        rw [e]
        refine ⟨ho, ?_⟩
        rw [HGG.out, HT.out]
        by_cases hm : s ∈ l.take k
        · simp [hm]
        · have : ¬ s = x := fun e => hne ⟨by rw [HGG.out]; simpa using hm, e.symm⟩
          simp [hm, this])
      by_cases hq : x = s
      · have hqb : (x.toList == s.toList) = true := by rw [hq]; simp
        cases gg with
        | false =>
          have HF := hid (show wo s (l.take (k + 1)) = wo s (l.take k) ∧ true = decide (s ∈ l.take (k + 1)) from by
            have hm : ¬ s ∈ l.take k := by simpa using HGG.out.symm
            rw [HT.out, HW.out, if_neg hm, if_pos hq, wo_out hm]
            exact ⟨rfl, by simp [hq]⟩)
          clear HFIN
          go_wp2_with fail
          exact ⟨⟨k + 1, by omega, by go_num, hid (by rw [← HF.out.2]), hid (by rw [HF.out.1]; exact HO.out)⟩, by simp [intOf]; omega⟩
        | true =>
          clear hq
          have HB1 := hid (belowA wr (.cells #[.string x] 9))
          have HO1 := hid (row_low HO.out.1 HB1.out)
          have HX1 := hid (show RdG strV 1 (wr.alloc (.cells #[.string x] 9)) (some ⟨wr.heap.size, 0, none⟩) [x] from Or.inr ⟨_, 0, rfl, by simp, fun j hj q hq => by
            obtain rfl : j = 0 := by simpa using hj
            obtain rfl : q = 0 := by omega
            exact cell_of_row _ _ 0 _ _ _ (heap_alloc_new wr (.cells #[.string x] 9))⟩)
          have HLE := hid (show (wo s (l.take k)).length ≤ 4096 from Nat.le_trans (wo_le _ _) (by rw [List.length_take]; omega))
          have HSZ := hid (show w.heap.size ≤ (wr.alloc (.cells #[.string x] 9)).heap.size from Nat.le_trans HO.out.2.size HB1.out.size)
          go_wp2_with (at_builtin; go_loud (refine wpl_app rfl _ _ 45 rfl w.heap.size 9 i4 _ 1 16 Try.underlying45 hi hz0 hz1 hz2 rfl (by decide) _ _ _ rfl HO1.out (some ⟨wr.heap.size, 0, none⟩) 1 1 (rowX strV [x]) rfl (fun e => by cases e) rfl (rdg_news strV_size (by decide) HX1.out) (rowS_one _) (by have := HLE.out; unfold maxLen; omega) (by have := HLE.out; omega) HSZ.out ?_))
          intro v' w' h2 h3
          rw [← rowX_app] at h2
          have HN2 := hid (HFIN.out w' v' (by rw [List.length_append]; exact h2) (fun e => absurd e.1 (by decide)))
          have HB2 := hid (below_row (bch HO.out.2 HB1.out) (Nat.le_refl _) HO1.out h3)
          clear h2 h3 HFIN
          go_wp2_with fail
          exact ⟨⟨k + 1, by omega, by go_num, hid (by first | (rw [← HN2.out.2]) | (rw [HN2.out.2])), hid ⟨HN2.out.1, HB2.out⟩⟩, by simp [intOf]; omega⟩
      · have hqb : (x.toList == s.toList) = false := by
          have : ¬ x.toList = s.toList := fun e => hq (bytes_ext e)
          simpa using this
        have HQ := hid hq
        clear hq
        have HB1 := hid (belowA wr (.cells #[.string x] 9))
        have HO1 := hid (row_low HO.out.1 HB1.out)
        have HX1 := hid (show RdG strV 1 (wr.alloc (.cells #[.string x] 9)) (some ⟨wr.heap.size, 0, none⟩) [x] from Or.inr ⟨_, 0, rfl, by simp, fun j hj q hq => by
          obtain rfl : j = 0 := by simpa using hj
          obtain rfl : q = 0 := by omega
          exact cell_of_row _ _ 0 _ _ _ (heap_alloc_new wr (.cells #[.string x] 9))⟩)
        have HLE := hid (show (wo s (l.take k)).length ≤ 4096 from Nat.le_trans (wo_le _ _) (by rw [List.length_take]; omega))
        have HSZ := hid (show w.heap.size ≤ (wr.alloc (.cells #[.string x] 9)).heap.size from Nat.le_trans HO.out.2.size HB1.out.size)
        go_wp2_with (at_builtin; go_loud (refine wpl_app rfl _ _ 45 rfl w.heap.size 9 i4 _ 1 16 Try.underlying45 hi hz0 hz1 hz2 rfl (by decide) _ _ _ rfl HO1.out (some ⟨wr.heap.size, 0, none⟩) 1 1 (rowX strV [x]) rfl (fun e => by cases e) rfl (rdg_news strV_size (by decide) HX1.out) (rowS_one _) (by have := HLE.out; unfold maxLen; omega) (by have := HLE.out; omega) HSZ.out ?_))
        intro v' w' h2 h3
        rw [← rowX_app] at h2
        have HN2 := hid (HFIN.out w' v' (by rw [List.length_append]; exact h2) (fun e => HQ.out e.2))
        have HB2 := hid (below_row (bch HO.out.2 HB1.out) (Nat.le_refl _) HO1.out h3)
        clear h2 h3 HFIN
        go_wp2_with fail
        exact ⟨⟨k + 1, by omega, by go_num, hid (by first | (rw [← HN2.out.2]) | (rw [HN2.out.2])), hid ⟨HN2.out.1, HB2.out⟩⟩, by simp [intOf]; omega⟩
    · have g1 : ¬ (k : Int) < (n : Int) := by omega
      have HF := hid (show l.take k = l from List.take_of_length_le (by have := HN.out; omega))
      go_wp2_with fail
      go_ret
      exact ⟨_, by first | rfl | simp, by have := HO.out; rw [HF.out] at this; exact this⟩
end Go.Proofs.Ytfbagkajbnomoaa.L
