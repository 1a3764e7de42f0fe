import Derived.Test.YtbplmglddinkdaaX9
namespace Go.Proofs.Ytbplmglddinkdaa.L
open Go.RowKit Go.Shelf
set_option linter.unusedVariables false
/-- What a text in quotes comes to. -/
def unqS (s : ByteArray) : TR :=
  if 4096 < s.size then .bad 110 4096 else if bt s 0 ≠ 34 then .bad 111 0 else
  match txS s 0 1 [] with
  | .bad c a => .bad c a
  | .ok l e => if e < s.size then .bad 111 e else .ok l e
def UQ (r : TR) (w : World) (e : Ending) (w' : World) : Prop :=
  match r with
  | .ok l _ => e = .returned (.tuple #[.string ⟨l.toArray⟩, .nilIface]) ∧ Below w.heap.size w w'
  | .bad c a => ∃ N, e = .returned (.tuple #[.string ⟨#[]⟩, fv N]) ∧ Flt w' N c a ∧ w.heap.size ≤ N ∧ Below w.heap.size w w'
theorem empty_no {s : ByteArray} (h : s.size ≠ 0) : s.toList.isEmpty = false ∧ ¬ s.toList = [] := by
  have h' : ¬ s.toList = [] := by
    intro e
    rw [ByteArray.toList_eq] at e
    exact h (by simpa using congrArg List.length e)
  refine ⟨?_, h'⟩
  cases hx : s.toList with
  | nil => exact absurd hx h'
  | cons a l => rfl
set_option maxHeartbeats 4000000 in
theorem unq_any (s : ByteArray) (w : World) (hm : s.size ≤ 140737488351232) : Calls Try.prog 7 #[.string s] w fun e w' => UQ (unqS s) w e w' := by
  have FA := hid (fun (c : Nat) (a : Nat) (W : World) => fault_any c a W)
  obtain ⟨R, hR⟩ : ∃ R, unqS s = R := ⟨_, rfl⟩
  rw [hR]
  unfold unqS at hR
  by_cases h4 : 4096 < s.size
  · rw [if_pos h4] at hR
    subst hR
    have HT := hid (toolong_yes s w h4)
    unfold fv at HT
    go_enter Try.func7, Try.ntmps7
    go_wp2_with (go_at_call 13; refine HT.out.mono ?_; rintro e w1 ⟨rfl, f1, l1⟩; have F1 := hid f1; have L1 := hid l1; clear f1 l1)
    go_ret2
    exact ⟨_, rfl, F1.out, Nat.le_refl _, L1.out⟩
  · rw [if_neg h4] at hR
    have HT := hid (toolong_no s w (by omega))
    by_cases h0 : s.size = 0
    · have b0 : bt s 0 ≠ 34 := by rw [bt_out s 0 (by omega)]; decide
      rw [if_pos b0] at hR
      subst hR
      obtain rfl : s = ⟨#[]⟩ := ByteArray.ext (Array.eq_empty_of_size_eq_zero h0)
      have HF := hid (FA.out 111 0 w)
      go_enter Try.func7, Try.ntmps7
      go_wp2_with (first | (go_at_call 13; refine HT.out.mono ?_; rintro e w1 ⟨rfl, hww⟩; have hw2 := hww.symm; clear hww; subst hw2) | (go_at_call 14; refine HF.out.mono ?_; rintro e w1 ⟨he, f1, l1⟩; unfold fv at he; subst he; have F1 := hid f1; have L1 := hid l1; clear f1 l1))
      go_ret2
      exact ⟨_, rfl, F1.out, Nat.le_refl _, L1.out⟩
    · have hlt : 0 < s.size := by omega
      have hc := iv_get s 0 hlt
      obtain ⟨hne, hne2⟩ := empty_no h0
      by_cases b0 : bt s 0 ≠ 34
      · rw [if_pos b0] at hR
        subst hR
        have HF := hid (FA.out 111 0 w)
        have g := ne_iv b0
        rw [show iv 34 = 34 from rfl] at g
        have g2 : (iv (bt s 0) != 34) = true := by simpa using g
        generalize iv (bt s 0) = x at *
        go_enter Try.func7, Try.ntmps7
        go_wp2_with (first | (go_at_call 13; refine HT.out.mono ?_; rintro e w1 ⟨rfl, hww⟩; have hw2 := hww.symm; clear hww; subst hw2) | (go_at_call 14; refine HF.out.mono ?_; rintro e w1 ⟨he, f1, l1⟩; unfold fv at he; subst he; have F1 := hid f1; have L1 := hid l1; clear f1 l1))
        go_ret2
        exact ⟨_, rfl, F1.out, Nat.le_refl _, L1.out⟩
      · rw [if_neg b0] at hR
        have b0 : bt s 0 = 34 := Classical.byContradiction b0
        rw [b0, show iv 34 = 34 from rfl] at hc
        have HX := hid (readtext_any s 0 w (by omega) hlt)
        cases hT : txS s 0 1 [] with
        | bad c a =>
          rw [hT] at hR
          simp only at hR
          subst hR
          rw [show txS s 0 (0 + 1) [] = TR.bad c a from hT] at HX
          go_enter Try.func7, Try.ntmps7
          go_wp2_with (first | (go_at_call 13; refine HT.out.mono ?_; rintro e w1 ⟨rfl, hww⟩; have hw2 := hww.symm; clear hww; subst hw2) | (go_at_call 15; refine HX.out.mono ?_; rintro e w1 ⟨N, he, f1, n1, l1⟩; unfold fv tv tok0 at he; subst he; have F1 := hid f1; have L1 := hid l1; have N1 := hid n1; clear f1 l1 n1))
          go_ret2
          exact ⟨_, rfl, F1.out.low (belowA w1 _) F1.out.lt, N1.out, L1.out.alloc L1.out.size _⟩
        | ok l k =>
          rw [hT] at hR
          simp only at hR
          rw [show txS s 0 (0 + 1) [] = TR.ok l k from hT] at HX
          by_cases hk : k < s.size
          · rw [if_pos hk] at hR
            subst hR
            have HF := hid (fun W => FA.out 111 k W)
            have hk' : (k : Int) < (s.size : Int) := by omega
            go_enter Try.func7, Try.ntmps7
            go_wp2_with (first | (go_at_call 13; refine HT.out.mono ?_; rintro e w1 ⟨rfl, hww⟩; have hw2 := hww.symm; clear hww; subst hw2) | (go_at_call 15; refine HX.out.mono ?_; rintro e w1 ⟨he, l1⟩; unfold tv at he; subst he; have L1 := hid l1; clear l1) | (go_at_call 14; refine (HF.out _).mono ?_; rintro e w2 ⟨he, f2, l2⟩; unfold fv at he; subst he; have F2 := hid f2; have L2 := hid l2; clear f2 l2))
            go_ret2
            exact ⟨_, rfl, by have := F2.out; rw [World.size_alloc] at this; exact this, by have := L1.out.size; omega, (L1.out.alloc L1.out.size _).trans (L2.out.mono (by have := L1.out.size; simp; omega))⟩
          · rw [if_neg hk] at hR
            subst hR
            have hk' : ¬ (k : Int) < (s.size : Int) := by omega
            go_enter Try.func7, Try.ntmps7
            go_wp2_with (first | (go_at_call 13; refine HT.out.mono ?_; rintro e w1 ⟨rfl, hww⟩; have hw2 := hww.symm; clear hww; subst hw2) | (go_at_call 15; refine HX.out.mono ?_; rintro e w1 ⟨he, l1⟩; unfold tv at he; subst he; have L1 := hid l1; clear l1))
            go_ret2
            exact ⟨rfl, L1.out.alloc L1.out.size _⟩
def unqV : TR → Value
  | .ok l e => .tuple #[.string ⟨l.toArray⟩, .int .i64 0, .int .i64 0]
  | .bad c a => .tuple #[.string ⟨#[]⟩, .int .i64 (c : Int), .int .i64 (a : Int)]
theorem txS_code {s : ByteArray} {f : Nat} {c a : Nat} : ∀ (n k : Nat) (l : List UInt8), s.size - k = n → txS s f k l = .bad c a → c ≠ 0 := by
  intro n
  induction n using Nat.strongRecOn with
  | ind n ih =>
    intro k l hn h
    by_cases hlt : k < s.size
    · by_cases c1 : bt s k = 34
      · rw [txS_q s f k l hlt c1] at h
        split at h
        · cases h; decide
        · cases h
      · by_cases c2 : bt s k = 92
        · by_cases e : (esc3 s k).2 = 0
          · rw [txS_e0 s f k l hlt c2 e] at h
            cases h; decide
          · rw [txS_e s f k l hlt c2 e] at h
            exact ih _ (by omega) _ _ rfl h
        · by_cases e : iv (bt s k) < 32
          · rw [txS_low s f k l hlt c1 c2 e] at h
            cases h; decide
          · rw [txS_go s f k l hlt c1 c2 e] at h
            exact ih _ (by omega) _ _ rfl h
    · rw [txS_end s f k l hlt] at h
      cases h; decide
theorem unq_code {s : ByteArray} {c a : Nat} (h : unqS s = .bad c a) : c ≠ 0 := by
  unfold unqS at h
  split at h
  · cases h; decide
  · split at h
    · cases h; decide
    · split at h
      · rename_i hx
        cases h
        exact txS_code _ _ _ rfl hx
      · split at h
        · cases h; decide
        · cases h
set_option maxHeartbeats 4000000 in
theorem runq_any (s : ByteArray) (w : World) (hm : s.size ≤ 140737488351232) : Calls Try.prog 8 #[.string s] w fun e w' => e = .returned (unqV (unqS s)) ∧ Below w.heap.size w w' := by
  obtain ⟨R, hR⟩ : ∃ R, unqS s = R := ⟨_, rfl⟩
  rw [hR]
  unfold unqS at hR
  by_cases h4 : 4096 < s.size
  · rw [if_pos h4] at hR
    subst hR
    have h4' : (4096 : Int) < (s.size : Int) := by omega
    go_enter Try.func8, Try.ntmps8
    go_wp2
    go_ret3
    exact ⟨rfl, Below.refl _ _⟩
  · rw [if_neg h4] at hR
    have h4' : ¬ (4096 : Int) < (s.size : Int) := by omega
    have HB := hid (fun W => rbyte_any s 0 W)
    by_cases b0 : bt s 0 ≠ 34
    · rw [if_pos b0] at hR
      subst hR
      have g := ne_iv b0
      rw [show iv 34 = 34 from rfl] at g
      have g2 : (iv (bt s 0) != 34) = true := by simpa using g
      generalize iv (bt s 0) = x at *
      go_enter Try.func8, Try.ntmps8
      go_wp2_with (go_at_call 16; refine (HB.out _).mono ?_; rintro e w1 ⟨rfl, hww⟩; have hw2 := hww.symm; clear hww; subst hw2)
      go_ret3
      exact ⟨rfl, Below.refl _ _⟩
    · rw [if_neg b0] at hR
      have b0 : bt s 0 = 34 := Classical.byContradiction b0
      have hlt : 0 < s.size := bt_nz (by rw [b0]; decide)
      rw [b0, show iv 34 = 34 from rfl] at HB
      have HX := hid (textat_any s 0 w (by omega) hlt)
      cases hT : txS s 0 1 [] with
      | bad c a =>
        rw [hT] at hR
        simp only at hR
        subst hR
        rw [show txS s 0 (0 + 1) [] = TR.bad c a from hT] at HX
        have hc0 := txS_code _ _ _ rfl hT
        have hc : (((c : Int)) != 0) = true := by simp; omega
        have hc' : (((c : Int)) == 0) = false := by simp; omega
        have hc3 : ¬ (c : Int) = 0 := by omega
        unfold textV at HX
        go_enter Try.func8, Try.ntmps8
        go_wp2_with (first | (go_at_call 16; refine (HB.out _).mono ?_; rintro e w1 ⟨rfl, hww⟩; have hw2 := hww.symm; clear hww; subst hw2) | (go_at_call 17; refine HX.out.mono ?_; rintro e w1 ⟨rfl, l1⟩; have L1 := hid l1; clear l1))
        go_ret3
        exact ⟨rfl, L1.out⟩
      | ok l k =>
        rw [hT] at hR
        simp only at hR
        rw [show txS s 0 (0 + 1) [] = TR.ok l k from hT] at HX
        unfold textV at HX
        by_cases hk : k < s.size
        · rw [if_pos hk] at hR
          subst hR
          have hk' : (k : Int) < (s.size : Int) := by omega
          go_enter Try.func8, Try.ntmps8
          go_wp2_with (first | (go_at_call 16; refine (HB.out _).mono ?_; rintro e w1 ⟨rfl, hww⟩; have hw2 := hww.symm; clear hww; subst hw2) | (go_at_call 17; refine HX.out.mono ?_; rintro e w1 ⟨rfl, l1⟩; have L1 := hid l1; clear l1))
          go_ret3
          exact ⟨rfl, L1.out⟩
        · rw [if_neg hk] at hR
          subst hR
          have hk' : ¬ (k : Int) < (s.size : Int) := by omega
          go_enter Try.func8, Try.ntmps8
          go_wp2_with (first | (go_at_call 16; refine (HB.out _).mono ?_; rintro e w1 ⟨rfl, hww⟩; have hw2 := hww.symm; clear hww; subst hw2) | (go_at_call 17; refine HX.out.mono ?_; rintro e w1 ⟨rfl, l1⟩; have L1 := hid l1; clear l1))
          go_ret3
          exact ⟨rfl, L1.out⟩
end Go.Proofs.Ytbplmglddinkdaa.L
