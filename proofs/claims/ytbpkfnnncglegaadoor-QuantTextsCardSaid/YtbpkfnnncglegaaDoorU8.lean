import Derived.Test.YtbpkfnnncglegaaDoorU7
namespace Go.Proofs.YtbpkfnnncglegaaDoor.L
open Go.RowKit Go.Shelf
set_option linter.unusedVariables false
theorem less_self : ∀ l : List UInt8, Op.bytesLess l l = false
  | [] => rfl
  | x :: r => by simp [Op.bytesLess, less_self r]
/-- Is a shorter than b, or less at the same length? -/
def ahB (a b : ByteArray) : Bool := if a.size = b.size then Op.bytesLess a.toList b.toList else decide (a.size < b.size)
set_option maxHeartbeats 2000000 in
theorem ahead_any (a b : ByteArray) (w : World) : Calls Tryd.prog 9 #[.string a, .string b] w fun e w' => e = .returned (.bool (ahB a b)) ∧ w' = w := by
  unfold ahB
  by_cases h : a.size = b.size
  · rw [if_pos h]
    have h' : (a.size : Int) = (b.size : Int) := by omega
    go_enter Tryd.func9, Tryd.ntmps9
    go_wp2
    go_ret
    exact ⟨rfl, rfl⟩
  · rw [if_neg h]
    have h' : ¬ (a.size : Int) = (b.size : Int) := by omega
    go_enter Tryd.func9, Tryd.ntmps9
    go_wp2
    go_ret
    exact ⟨rfl, rfl⟩
/-- The best of the first texts. -/
def bst (x : Nat → ByteArray) : Nat → ByteArray
  | 0 => x 0
  | k + 1 => if ahB (x (k + 1)) (bst x k) then x (k + 1) else bst x k
theorem bst_size {x : Nat → ByteArray} {m : Nat} (h : ∀ i, i < 13 → (x i).size ≤ m) : ∀ k, k < 13 → (bst x k).size ≤ m
  | 0, _ => h 0 (by omega)
  | k + 1, hk => by
    simp only [bst]
    split
    · exact h _ hk
    · exact bst_size h k (by omega)
theorem bst_pre (x : Nat → ByteArray) (k : Nat) : (if ahB (x k) (bst x (k - 1)) then x k else bst x (k - 1)) = bst x (k + 1 - 1) := by
  cases k with
  | zero =>
    have : ahB (x 0) (bst x 0) = false := by
      show ahB (x 0) (x 0) = false
      unfold ahB
      rw [if_pos rfl]
      exact less_self _
    simp only [Nat.zero_sub, Nat.zero_add, Nat.sub_self, this]
    rfl
  | succ k => rfl
/-- The texts of n. -/
structure Txs (n : Nat) (lw : Nat → Nat) (x : Nat → ByteArray) : Prop where
  low : ∀ i, Lw (n * mI i) (pI i) (lw i)
  tx : ∀ i, x i = S (txU n i (lw i))
theorem txs_all (n : Nat) : ∃ lw x, Txs n lw x :=
  ⟨fun i => Classical.choose (lw_all (n * mI i) (pI i)), fun i => S (txU n i (Classical.choose (lw_all (n * mI i) (pI i)))), fun i => Classical.choose_spec (lw_all (n * mI i) (pI i)), fun i => rfl⟩
theorem Txs.zero {n : Nat} {lw : Nat → Nat} {x : Nat → ByteArray} (h : Txs n lw x) : x 0 = S (Lib.decDigits n) := by
  rw [h.tx 0]
  have e : txU n 0 (lw 0) = Lib.decDigits n := by
    unfold txU frB
    have h1 : wI 0 = 1 := rfl
    have h2 : pI 0 = 0 := rfl
    have h3 : uI 0 = [] := rfl
    rw [h1, h2, h3, Nat.div_one, if_neg (by omega)]
    simp
  rw [e]
theorem Txs.size {n : Nat} {lw : Nat → Nat} {x : Nat → ByteArray} (h : Txs n lw x) (hn : n ≤ 9223372036854775807) : ∀ i, i < 13 → (x i).size ≤ 100 := by
  intro i hi
  rw [h.tx i, S_size]
  unfold txU
  rw [List.length_append, List.length_append]
  have h1 := dec19 (show n / wI i ≤ 9223372036854775807 from Nat.le_trans (Nat.div_le_self _ _) hn)
  have h2 := uI_len i
  have h3 := pI_le i hi
  have h4 : (frB (n * mI i) (pI i) (lw i)).length ≤ 61 := by
    unfold frB
    split
    · rw [List.length_cons, rng_len]; omega
    · simp
  omega
theorem wI_le (i : Nat) (hi : i < 13) : wI i ≤ 1152921504606846976 := by
  have h : ∀ j : Fin 13, wI j.val ≤ 1152921504606846976 := by decide
  exact h ⟨i, hi⟩
set_option maxHeartbeats 4000000 in
set_option maxRecDepth 100000 in
theorem rtext_any (n : Nat) (hn : n ≤ 9223372036854775807) (lw : Nat → Nat) (x : Nat → ByteArray) (hx : Txs n lw x) (w : World) :
    Calls Tryd.prog 6 #[.int .i64 (n : Int)] w fun e w' => e = .returned (.tuple #[.string (bst x 12), .int .i64 0]) ∧ Below w.heap.size w w' := by
  have HW := hid (fun i hi W => written_any n i (lw i) hn hi (hx.low i) W)
  have HX := hid (fun i => (hx.tx i).symm)
  have HSZ := hid (bst_size (hx.size hn))
  have HSX := hid (hx.size hn)
  have h0 : ¬ ((n : Int) < 0) := by omega
  have HW0 := hid (show ∀ W, Calls Tryd.prog 10 #[.int .i64 (n : Int), .int .i64 0] W fun e w' => e = .returned (.string (x 0)) ∧ Below W.heap.size W w' from fun W => by rw [hx.tx 0]; exact HW.out 0 (by omega) W)
  clear hx
  go_enter Tryd.func6, Tryd.ntmps6
  go_upto_region 4 with (go_at_call 10; refine (HW0.out _).mono ?_; rintro e w1 ⟨rfl, b1⟩; have B1 := hid b1; clear b1; dsimp only)
  go_wp2_with fail
  go_loopw [4, 5] (fun b i wr => ∃ k : Nat, k ≤ 12 ∧ i = .int .i64 ((k + 1 : Nat) : Int) ∧ b = .string (bst x k) ∧ Hid (Below w.heap.size w wr)) (fun _ i _ => 13 - (intOf i).toNat)
  case atStart => exact ⟨0, by omega, rfl, rfl, B1⟩
  case round =>
    clear B1
    obtain ⟨k, hk, rfl, rfl, HB⟩ := hrel
    by_cases hk12 : k < 12
    · have HWK := hid (show ∀ W, Calls Tryd.prog 10 #[.int .i64 (n : Int), .int .i64 ((k + 1 : Nat) : Int)] W fun e w' => e = .returned (.string (x (k + 1))) ∧ Below W.heap.size W w' from fun W => by rw [← HX.out (k + 1)]; exact HW.out (k + 1) (by omega) W)
      have HBS := hid (show bst x (k + 1) = if ahB (x (k + 1)) (bst x k) then x (k + 1) else bst x k from rfl)
      have g1 : ((k + 1 : Nat) : Int) < 13 := by omega
      have e1 : ((k + 1 : Nat) : Int) + 1 = ((k + 1 + 1 : Nat) : Int) := by omega
      have HK1 := hid (show k + 1 ≤ 12 by omega)
      have hs1 := HSX.out (k + 1) (by omega)
      have hs2 := HSZ.out k (by omega)
      generalize x (k + 1) = a at *
      generalize hbe : bst x k = b at *
      clear e1
      by_cases h1 : a.size < b.size
      · have h1' : (a.size : Int) < (b.size : Int) := by omega
        have HBN := hid (show bst x (k + 1) = a by
          have h2 : ahB a b = true := by unfold ahB; rw [if_neg (by omega)]; exact decide_eq_true h1
          rw [HBS.out, h2]; rfl)
        clear HBS
        go_wp2_with (go_at_call 10; refine (HWK.out _).mono ?_; rintro e w2 ⟨rfl, b2⟩; have B2 := hid (bchS HB.out b2); clear b2; dsimp only)
        refine ⟨⟨k + 1, HK1.out, by go_num, by rw [HBN.out], B2⟩, ?_⟩
        have h9 := HK1.out
        simp [intOf]
        omega
      · have h1' : ¬ ((a.size : Int) < (b.size : Int)) := by omega
        by_cases h2 : a.size = b.size
        · have h2' : ((a.size : Int) == (b.size : Int)) = true := by simp; omega
          cases h3 : Op.bytesLess a.toList b.toList with
          | true =>
            have HBN := hid (show bst x (k + 1) = a by
              have h4 : ahB a b = true := by unfold ahB; rw [if_pos h2]; exact h3
              rw [HBS.out, h4]; rfl)
            clear HBS
            have HH2 := hid h2
            clear h2
            go_wp2_with (go_at_call 10; refine (HWK.out _).mono ?_; rintro e w2 ⟨rfl, b2⟩; have B2 := hid (bchS HB.out b2); clear b2; dsimp only)
            refine ⟨⟨k + 1, HK1.out, by go_num, by rw [HBN.out], B2⟩, ?_⟩
            have h9 := HK1.out
            simp [intOf]
            omega
          | false =>
            have HBN := hid (show bst x (k + 1) = b by
              have h4 : ahB a b = false := by unfold ahB; rw [if_pos h2]; exact h3
              rw [HBS.out, h4]; rfl)
            clear HBS
            have HH2 := hid h2
            clear h2
            go_wp2_with (go_at_call 10; refine (HWK.out _).mono ?_; rintro e w2 ⟨rfl, b2⟩; have B2 := hid (bchS HB.out b2); clear b2; dsimp only)
            refine ⟨⟨k + 1, HK1.out, by go_num, by rw [HBN.out], B2⟩, ?_⟩
            have h9 := HK1.out
            simp [intOf]
            omega
        · have h2' : ((a.size : Int) == (b.size : Int)) = false := by simp; omega
          have HBN := hid (show bst x (k + 1) = b by
            have h4 : ahB a b = false := by unfold ahB; rw [if_neg h2]; exact decide_eq_false h1
            rw [HBS.out, h4]; rfl)
          clear HBS
          go_wp2_with (go_at_call 10; refine (HWK.out _).mono ?_; rintro e w2 ⟨rfl, b2⟩; have B2 := hid (bchS HB.out b2); clear b2; dsimp only)
          refine ⟨⟨k + 1, HK1.out, by go_num, by rw [HBN.out], B2⟩, ?_⟩
          have h9 := HK1.out
          simp [intOf]
          omega
    · obtain rfl : k = 12 := by omega
      go_wp2_with fail
      (try simp only [Exit.inBlock, Exit.then])
      exact bodyPost_ret (results_tmp2 rfl _ _ _) rfl ⟨rfl, HB.out⟩
theorem ext2 (ua : Array Value) (j : Nat) (a b : Value) (h0 : ua[j]? = some a) (h1 : ua[j + 1]? = some b) : ua.extract j (j + 2) = #[a, b] := by
  have l1 : j + 1 < ua.size := (Array.getElem?_eq_some_iff.1 h1).1
  apply Array.ext
  · simp
    omega
  · intro i hi1 hi2
    simp at hi2
    have hi : i = 0 ∨ i = 1 := by omega
    rcases hi with rfl | rfl
    · rw [Array.getElem_extract]
      have := (Array.getElem?_eq_some_iff.1 h0).2
      simpa using this
    · rw [Array.getElem_extract]
      have := (Array.getElem?_eq_some_iff.1 h1).2
      simpa using this
theorem idx_any (ua : Array Value) (k : Nat) (hk : k < 13) (a b : Value) (h0 : ua[k * 2]? = some a) (h1 : ua[k * 2 + 1]? = some b) (w : World) :
    (Instr.index 34 (.agg ua) (.int .i64 (k : Int))).run Tryd.prog w = .ok (.agg #[a, b]) w := by
  have hn : (0 : Int) ≤ (k : Int) ∧ (k : Int) < (13 : Nat) := by omega
  have hu := Tryd.underlying34
  have hk2 : (k : Int).toNat = k := by omega
  simp [Instr.index, run_underlying hu, asIntOf, hn, go_sem]
  rw [if_pos hk, ext2 ua (k * 2) a b h0 h1]
/-- The table of the units, as the program holds it. -/
structure UnW (w : World) (ua : Array Value) : Prop where
  blk : ∃ t fr, w.heap[0]? = some (.cells ua t fr)
  sz : ua.size = 26
  at' : ∀ k, k < 13 → ua[k * 2]? = some (.string (S (uI k))) ∧ ua[k * 2 + 1]? = some (.int .u64 (wI k : Int))
theorem UnW.low {w w' : World} {ua : Array Value} (h : UnW w ua) (hb : Below w.heap.size w w') : UnW w' ua := by
  obtain ⟨t, fr, e⟩ := h.blk
  exact ⟨⟨t, fr, (hb.block _ (lt_blk e)).trans e⟩, h.sz, h.at'⟩
set_option maxHeartbeats 4000000 in
set_option maxRecDepth 100000 in
theorem text_any (n : Nat) (hn : n ≤ 9223372036854775807) (lw : Nat → Nat) (x : Nat → ByteArray) (hx : Txs n lw x) (w : World) (hv : TabW w) (ua : Array Value) (hu : UnW w ua) :
    Calls Tryd.prog 5 #[.int .i64 (n : Int)] w fun e w' => e = .returned (.tuple #[.string (bst x 12), .int .i64 0]) ∧ Below w.heap.size w w' := by
  have HI := hid (itoa_any n hn w hv)
  have HV := hid hv
  have HU := hid hu
  have HIU := hid (fun i hi W h => inunit_any n (wI i) (mI i) (pI i) (lw i) (uI i) hn (wm i) (wI_pos i) (wI_le i hi) (pI_le i hi) (hx.low i) (uI_len i) W h)
  have HX := hid (fun i => (hx.tx i).symm)
  have HX0 := hid hx.zero
  have HAH := hid (fun a b W => ahead_any a b W)
  have h0 : ¬ ((n : Int) < 0) := by omega
  rw [← hx.zero] at HI
  obtain ⟨ut, ufr, hblk⟩ := hu.blk
  have husz := hu.sz
  clear hx hv
  go_enter Tryd.func5, Tryd.ntmps5
  go_upto_region 4 with (go_at_call 7; refine HI.out.mono ?_; rintro e w1 ⟨rfl, b1⟩; have B1 := hid b1; clear b1; dsimp only)
  have HB1 := hid ((B1.out.block _ (lt_blk hblk)).trans hblk)
  go_step
  refine wpList_load_row rfl 34 _ rfl 0 rfl ut ua ufr _ HB1.out Tryd.underlying34 rfl (by rw [husz]; kernel_rfl) ?_
  clear husz hblk
  go_wp2_with fail
  go_loopw [4, 13] (fun b i wr => ∃ k : Nat, k ≤ 13 ∧ i = .int .i64 (k : Int) ∧ b = .string (bst x (k - 1)) ∧ Hid (Below w.heap.size w wr)) (fun _ i _ => 13 - (intOf i).toNat)
  case atStart => exact ⟨0, by omega, rfl, rfl, B1⟩
  case round =>
    clear B1 HB1
    obtain ⟨k, hk, rfl, rfl, HB⟩ := hrel
    by_cases hk13 : k < 13
    · have g1 : (k : Int) < 13 := by omega
      have LX := idx_any ua k hk13 _ _ (HU.out.at' k hk13).1 (HU.out.at' k hk13).2
      have HIK := hid (show ∀ W, TabW W → Calls Tryd.prog 8 #[.int .u64 (n : Int), .agg #[.string (S (uI k)), .int .u64 (wI k : Int)]] W fun e w' => e = .returned (.string (x k)) ∧ Below W.heap.size W w' from fun W h => by rw [← HX.out k]; exact HIU.out k hk13 W h)
      have HA0 := hid (belowA wr (.cells #[.string (S (uI k)), .int .u64 (wI k : Int)] 33))
      have HX1 := hid (heap_alloc_new wr (.cells #[.string (S (uI k)), .int .u64 (wI k : Int)] 33))
      have HPRE := hid (bst_pre x k)
      have HTW := hid (HV.out.low (bchS HB.out HA0.out))
      generalize S (uI k) = us at *
      generalize ((wI k : Nat) : Int) = uw at *
      generalize bst x (k - 1) = b at *
      generalize x k = a at *
      go_upto_region 7 with (fail)
      have ⟨y0, y1⟩ := cell2 HX1.out
      have HB2 := hid (bchS HB.out HA0.out)
      generalize wr.alloc (.cells #[.string us, .int .u64 uw] 33) = V at *
      clear LX
      cases hab : ahB a b with
      | true =>
        have HAB := hid (show ∀ W, Calls Tryd.prog 9 #[.string a, .string b] W fun e w' => e = .returned (.bool true) ∧ w' = W from fun W => by rw [← hab]; exact HAH.out a b W)
        rw [hab, if_pos rfl] at HPRE
        clear hab
        go_wp2_with (first
          | (go_at_call 8; refine (HIK.out _ HTW.out).mono ?_; rintro e w2 ⟨rfl, b2⟩; have B2 := hid (bchS HB2.out b2); clear b2; dsimp only)
          | (go_at_call 9; refine (HAB.out _).mono ?_; rintro e w3 ⟨rfl, hww⟩; have hw3 := hww.symm; clear hww; subst hw3; dsimp only))
        refine ⟨⟨k + 1, by omega, by go_num, by rw [← HPRE.out], B2⟩, ?_⟩
        simp [intOf]
        omega
      | false =>
        have HAB := hid (show ∀ W, Calls Tryd.prog 9 #[.string a, .string b] W fun e w' => e = .returned (.bool false) ∧ w' = W from fun W => by rw [← hab]; exact HAH.out a b W)
        rw [hab, if_neg (by decide)] at HPRE
        clear hab
        go_wp2_with (first
          | (go_at_call 8; refine (HIK.out _ HTW.out).mono ?_; rintro e w2 ⟨rfl, b2⟩; have B2 := hid (bchS HB2.out b2); clear b2; dsimp only)
          | (go_at_call 9; refine (HAB.out _).mono ?_; rintro e w3 ⟨rfl, hww⟩; have hw3 := hww.symm; clear hww; subst hw3; dsimp only))
        refine ⟨⟨k + 1, by omega, by go_num, by rw [← HPRE.out], B2⟩, ?_⟩
        simp [intOf]
        omega
    · obtain rfl : k = 13 := by omega
      go_wp2_with fail
      (try simp only [Exit.inBlock, Exit.then])
      exact bodyPost_ret (results_tmp2 rfl _ _ _) rfl ⟨rfl, HB.out⟩
end Go.Proofs.YtbpkfnnncglegaaDoor.L
