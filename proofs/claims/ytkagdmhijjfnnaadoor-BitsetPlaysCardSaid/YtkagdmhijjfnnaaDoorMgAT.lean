import Derived.Test.YtkagdmhijjfnnaaDoorMgAS
namespace Go.Proofs.YtkagdmhijjfnnaaDoor
open Go.RowKit Bs
set_option linter.unusedVariables false
theorem half_num (x k : Nat) : ((x / 2 ^ k : Nat) : Int) / 2 = ((x / 2 ^ (k + 1) : Nat) : Int) := by
  rw [Nat.pow_succ, ← Nat.div_div_eq_div_mul]
  omega
theorem half_lt (x k : Nat) (hx : x < 18446744073709551616) : x / 2 ^ k < 18446744073709551616 := Nat.lt_of_le_of_lt (Nat.div_le_self _ _) hx
set_option maxRecDepth 100000 in
set_option maxHeartbeats 4000000 in
theorem dbit (x b : Nat) (w : World) (hx : x < 18446744073709551616) (hb : b ≤ 64) :
    Calls Tryd.prog 94 #[.int .u64 (x : Int), .int .i64 (b : Int)] w fun e w' => e = .returned (.bool (x.testBit b)) ∧ w' = w := by
  have HT := hid (show x.testBit b = decide (x / 2 ^ b % 2 = 1) from Nat.testBit_eq_decide_div_mod_eq)
  go_enter Tryd.func94, Tryd.ntmps94
  go_wp2_with fail
  go_loop [0, 5] (fun u i => ∃ k : Nat, k ≤ b ∧ i = .int .i64 k ∧ u = .int .u64 ((x / 2 ^ k : Nat) : Int)) (fun _ i => b - (intOf i).toNat)
  case atStart => exact ⟨0, Nat.zero_le _, rfl, by simp⟩
  case round =>
    obtain ⟨k, hk, rfl, rfl⟩ := hrel
    have hlt := half_lt x k hx
    have hn := half_num x k
    have hlt2 := half_lt x (k + 1) hx
    by_cases h : k < b
    · have hi : (k : Int) < (b : Int) := by omega
      generalize x / 2 ^ k = y at *
      generalize hy2 : x / 2 ^ (k + 1) = y2 at *
      have HN := hid hn
      clear hn
      go_wp2_with fail
      exact ⟨⟨k + 1, by omega, by go_num, by rw [hy2, ← HN.out]⟩, by simp [intOf]; omega⟩
    · obtain rfl : k = b := by omega
      clear hn hlt2
      generalize x / 2 ^ k = y at *
      by_cases h1 : y % 2 = 1
      · have e1 : (y : Int).tmod 2 = 1 := by rw [Int.tmod_eq_emod_of_nonneg (by omega)]; omega
        have e9 := hid (HT.out.trans (decide_eq_true h1))
        go_wp2_with fail
        go_ret
        exact ⟨by rw [e9.out]; rfl, rfl⟩
      · have e1 : (y : Int).tmod 2 = 0 := by rw [Int.tmod_eq_emod_of_nonneg (by omega)]; omega
        have e9 := hid (HT.out.trans (decide_eq_false h1))
        go_wp2_with fail
        go_ret
        exact ⟨by rw [e9.out]; rfl, rfl⟩
/-- A list of words, to be read. -/
def Rw (w : World) (a : Option Addr) (us : List Nat) : Prop := us.length = 0 ∨ ∃ b off, a = some ⟨b, off, none⟩ ∧ b < w.heap.size ∧ ∀ j, j < us.length → w.cell? ⟨b, off + j, none⟩ = some (.int .u64 ((us.getD j 0 : Nat) : Int))
theorem Rw.low {w w' : World} {a : Option Addr} {zs : List Nat} (h : Rw w a zs) {B : Nat} (k : Below B w w') (hB : w.heap.size ≤ B) : Rw w' a zs := by
  rcases h with h | ⟨b, off, rfl, h2, h3⟩
  · exact Or.inl h
  · exact Or.inr ⟨b, off, rfl, Nat.lt_of_lt_of_le h2 k.size, fun j hj => (k.cell (p := ⟨b, off + j, none⟩) (Nat.lt_of_lt_of_le h2 hB)).trans (h3 j hj)⟩
theorem msR_gap (S : Nat → Bool) {n m : Nat} (h : n ≤ m) (hg : ∀ i, n ≤ i → i < m → S i = false) : msR m S = msR n S := by
  induction m with
  | zero => obtain rfl : n = 0 := by omega
            rfl
  | succ m ih =>
    by_cases e : n = m + 1
    · rw [e]
    · rw [msR_succ, hg m (by omega) (by omega)]
      simp only [Bool.false_eq_true, if_false, List.append_nil]
      exact ih (by omega) (fun i h1 h2 => hg i h1 (by omega))
set_option maxRecDepth 100000 in
set_option maxHeartbeats 4000000 in
theorem dfw_no (n : Int) (a : Option Addr) (l cap : Nat) (w : World) (hn : ¬ (0 ≤ n ∧ n ≤ 65536)) :
    Calls Tryd.prog 69 #[.int .i64 n, .slice a l cap] w fun e w' => e = .returned (.tuple #[.agg #[.int .i64 0, .slice none 0 0], .int .i64 11]) ∧ Below w.heap.size w w' := by
  have HN := hid (dnew_no n (w.alloc (.cells #[.int .i64 0, .slice none 0 0] 30)) hn)
  clear hn
  go_enter Tryd.func69, Tryd.ntmps69
  go_wp2_with fail
  refine HN.out.mono ?_
  rintro e w1 ⟨rfl, hb1⟩
  have X := Fx.new hb1 0 (.slice none 0 0)
  have s0 := X.s0
  have s1 := X.s1
  have r0 := X.r0
  have r1 := X.r1
  have f0 := X.rf 0
  have f1 := X.rf 1
  have XL := hid X.low
  clear X hb1 HN
  go_wp2_with fail
  refine bodyPost_ret (v := .tuple #[.agg #[.int .i64 0, .slice none 0 0], .int .i64 11]) ?_ rfl ⟨rfl, below_st (below_st XL.out _ _ _ (by omega)) _ _ _ (by omega)⟩
  rw [results_cell_tmp rfl]
  go_simp
set_option maxRecDepth 100000 in
set_option maxHeartbeats 4000000 in
theorem dfw_len (n : Nat) (a : Option Addr) (l cap : Nat) (w : World) (hn : n ≤ 65536) (hl : l ≠ nw n) :
    Calls Tryd.prog 69 #[.int .i64 (n : Int), .slice a l cap] w fun e w' => e = .returned (.tuple #[.agg #[.int .i64 0, .slice none 0 0], .int .i64 14]) ∧ Below w.heap.size w w' := by
  have HN := hid (dnew n (w.alloc (.cells #[.int .i64 0, .slice none 0 0] 30)) hn)
  have hq : ((n : Int) + 63) / 64 = ((nw n : Nat) : Int) := by unfold nw; omega
  have hne : ((l : Int) != ((n : Int) + 63) / 64) = true := by rw [bne_iff_ne]; unfold nw at hl; omega
  clear hl hq
  go_enter Tryd.func69, Tryd.ntmps69
  go_wp2_with fail
  refine HN.out.mono ?_
  rintro e w1 ⟨rfl, hb1⟩
  have X := Fx.new hb1 n (.slice none 0 0)
  have s0 := X.s0
  have s1 := X.s1
  have r0 := X.r0
  have r1 := X.r1
  have f0 := X.rf 0
  have f1 := X.rf 1
  have XL := hid X.low
  clear X hb1 HN
  go_wp2_with fail
  refine bodyPost_ret (v := .tuple #[.agg #[.int .i64 0, .slice none 0 0], .int .i64 14]) ?_ rfl ⟨rfl, below_st (below_st XL.out _ _ _ (by omega)) _ _ _ (by omega)⟩
  rw [results_cell_tmp rfl]
  go_simp
end Go.Proofs.YtkagdmhijjfnnaaDoor
namespace Go.Proofs.YtkagdmhijjfnnaaDoor
open Go.RowKit Bs
set_option linter.unusedVariables false
/-- What stands in the midst of the document's FromWords. -/
structure Fz (w W : World) (S n m : Nat) (v : Value) (T : Nat → Bool) : Prop where
  fx : Fx w W S n v
  own : OwnI W (S + 1) v (msR m T)
  in' : ∀ i, n ≤ i → i < m → T i = false
theorem Fz.step {w W : World} {S n m m' : Nat} {v : Value} {T : Nat → Bool} (h : Fz w W S n m v T) (hm : m ≤ m') (hg : ∀ i, m ≤ i → i < m' → T i = false) : Fz w W S n m' v T :=
  ⟨h.fx, by rw [msR_gap T hm hg]; exact h.own, fun i h1 h2 => by
    by_cases c : i < m
    · exact h.in' i h1 c
    · exact hg i (by omega) h2⟩
set_option maxRecDepth 100000 in
set_option maxHeartbeats 4000000 in
theorem dfw (n : Nat) (a : Option Addr) (cap : Nat) (us : List Nat) (w : World) (hn : n ≤ 65536) (h : Rw w a us) (hl : us.length = nw n) (wd : Wd us) :
    Calls Tryd.prog 69 #[.int .i64 (n : Int), .slice a us.length cap] w fun e w' => ((∃ v, e = .returned (.tuple #[.agg #[.int .i64 (n : Int), v], .int .i64 0]) ∧ OwnI w' w.heap.size v (msR n (mem us)) ∧ ∀ i, n ≤ i → mem us i = false) ∨ (e = .returned (.tuple #[.agg #[.int .i64 0, .slice none 0 0], .int .i64 12]) ∧ ∃ i, n ≤ i ∧ mem us i = true)) ∧ Below w.heap.size w w' := by
  obtain ⟨i0, hi, hz0, hz1, hz2⟩ := info3
  have HN := hid (dnew n (w.alloc (.cells #[.int .i64 0, .slice none 0 0] 30)) hn)
  have H := hid h
  have HWD := hid wd
  have HMA := hid (fun k b (hb : b < 64) => mem_at us k b hb)
  have HMO := hid (fun i (hi : us.length ≤ i / 64) => mem_out us i hi)
  have hq : Hid (us.length = nw n) := hid hl
  have hbq : ((us.length : Int) != ((n : Int) + 63) / 64) = false := by rw [hl]; unfold nw; simp
  have hLm : us.length ≤ 1024 := by rw [hl]; unfold nw; omega
  clear h wd hl
  obtain ⟨L, hLe⟩ : ∃ L, L = us.length := ⟨_, rfl⟩
  have HL := hid hLe
  rw [← hLe] at hq hbq hLm HMO ⊢
  clear hLe
  obtain ⟨T, hT⟩ : ∃ T : Nat → Bool, T = mem us := ⟨_, rfl⟩
  have HT := hid hT
  rw [← hT] at HMA HMO ⊢
  clear hT
  go_enter Tryd.func69, Tryd.ntmps69
  go_wp2_with fail
  refine HN.out.mono ?_
  rintro e w1 ⟨rfl, hb1⟩
  have X := hid (Fx.new hb1 n (.slice none 0 0))
  have s0 := X.out.s0
  have s1 := X.out.s1
  clear hb1 HN
  go_wp2_with fail
  generalize w1.alloc _ = W at *
  generalize w1.heap.size = S at *
  clear s0 s1
  go_loopw [8] (fun x wr => ∃ (k : Nat) (v : Value), k ≤ L ∧ x = .int .i64 k ∧ Hid (Fz w wr S n (64 * k) v T)) (fun x _ => L - (intOf x).toNat)
  case atStart => exact ⟨0, _, Nat.zero_le _, rfl, hid ⟨X.out, World.ownsRow_nil _ _ _ _, fun i _ hi => by omega⟩⟩
  case round =>
    obtain ⟨k, v, hk, rfl, HZ⟩ := hrel
    by_cases hlt : k < L
    · rcases H.out.low HZ.out.fx.low (Nat.le_refl _) with h0 | ⟨bl, off, rfl, hb, hc⟩
      · have := HL.out; omega
      have HC := hid (fun W' (hW : Below w.heap.size w W') => show W'.cell? ⟨bl, off + k, none⟩ = some (.int .u64 ((us.getD k 0 : Nat) : Int)) by
        rcases H.out with h0 | ⟨bl', off', e, hb', hc'⟩
        · have := HL.out; omega
        · injection e with e; injection e with e1 e2 _
          subst e1; subst e2
          exact (hW.cell (p := ⟨bl, off + k, none⟩) hb').trans (hc' k (by rw [← HL.out]; exact hlt)))
      have HM := hid (fun b (hb : b < 64) => HMA.out k b hb)
      have hx := HWD.out.getD k
      have BT := hid (fun b W' (hb : b ≤ 64) => dbit (us.getD k 0) b W' hx hb)
      clear hc hb
      generalize us.getD k 0 = x at *
      have c0 := HC.out wr HZ.out.fx.low
      by_cases hx0 : x = 0
      · subst hx0
        have Z9 := hid (HZ.out.step (m' := 64 * (k + 1)) (by omega) (fun i h1 h2 => by
          have := HM.out (i - 64 * k) (by omega)
          rw [show 64 * k + (i - 64 * k) = i by omega] at this
          rw [this]; simp))
        clear HZ
        go_wp2_with fail
        exact ⟨⟨k + 1, v, by omega, by go_num, Z9⟩, by simp [intOf]; omega⟩
      · have hx1 : ((x : Int) == 0) = false := by simpa using hx0
        go_wp2_with fail
        clear c0
        go_loopw [9] (fun y wr => ∃ (b : Nat) (v : Value), b ≤ 64 ∧ y = .int .i64 b ∧ Hid (Fz w wr S n (64 * k + b) v T)) (fun y _ => 64 - (intOf y).toNat)
        case atStart => exact ⟨0, v, Nat.zero_le _, rfl, HZ⟩
        case round =>
          obtain ⟨b, v, hb, rfl, HZ⟩ := hrel
          have c0 := HC.out wr HZ.out.fx.low
          by_cases hlb : b < 64
          · have hlbi : (b : Int) < 64 := by omega
            have BTb := hid (BT.out b wr hb)
            have HMb := hid (HM.out b hlb)
            have hmul := hid (show 64 * (k : Int) + (b : Int) = ((64 * k + b : Nat) : Int) by omega)
            have hwr : IntKind.i64.wrap (64 * (k : Int) + (b : Int)) = 64 * (k : Int) + (b : Int) := by rw [IntKind.wrap_i64]; omega
            generalize x.testBit b = bb at *
            cases bb
            · have Z9 := hid (HZ.out.step (m' := 64 * k + (b + 1)) (by omega) (fun i h1 h2 => by
                obtain rfl : i = 64 * k + b := by omega
                exact HMb.out))
              clear HZ
              go_wp2_with (go_at_call 94; refine BTb.out.mono ?_; rintro e w2 ⟨rfl, hw2⟩; subst hw2)
              exact ⟨⟨b + 1, v, by omega, by go_num, Z9⟩, by simp [intOf]; omega⟩
            · by_cases hge : n ≤ 64 * k + b
              · have r0 := HZ.out.fx.r0
                have r1 := HZ.out.fx.r1
                have f0 := HZ.out.fx.rf 0
                have f1 := HZ.out.fx.rf 1
                have XL := hid HZ.out.fx.low
                have hgi : (n : Int) ≤ 64 * (k : Int) + (b : Int) := by omega
                clear HZ
                go_wp2_with (go_at_call 94; refine BTb.out.mono ?_; rintro e w2 ⟨rfl, hw2⟩; subst hw2)
                refine bodyPost_ret (v := .tuple #[.agg #[.int .i64 0, .slice none 0 0], .int .i64 12]) ?_ rfl ⟨Or.inr ⟨rfl, _, hge, HMb.out⟩, below_st (below_st XL.out _ _ _ (by omega)) _ _ _ (by omega)⟩
                rw [results_cell_tmp rfl]
                go_simp
              · have hgi : ¬ (n : Int) ≤ 64 * (k : Int) + (b : Int) := by omega
                have hms := msR_succ (64 * k + b) T
                rw [HMb.out] at hms
                simp only [if_true] at hms
                have HMS := hid hms
                have s1 := HZ.out.fx.s1
                have hlen : (msR (64 * k + b) T).length ≤ 64 * k + b := by rw [msR_len]; exact card_le _ _
                have hsz : S + 1 ≤ wr.heap.size := lt_of_block HZ.out.fx.s
                have hfz := HZ.out.fx.sf 1
                have HIN := hid (fun i (h1 : n ≤ i) (h2 : i < 64 * k + (b + 1)) => show T i = false from HZ.out.in' i h1 (by omega))
                clear hms
                go_wp2_with (first
                  | (go_at_call 94; refine BTb.out.mono ?_; rintro e w2 ⟨rfl, hw2⟩; subst hw2)
                  | (at_builtin; go_loud (refine wpList_append_src rfl _ _ rfl (S + 1) _ (msR (64 * k + b) T) rfl (own_low HZ.out.own (lowAlloc w2 (.cells #[.int .i64 (64 * (k : Int) + (b : Int))] 3))) _ [64 * (k : Int) + (b : Int)] rfl (holds_one w2 3 _) (by (try simp); omega) (by simp; omega) ?_; intro v1 w3 o1 g1; have HY2 := hid (show Fx w w3 S n v from (HZ.out.fx.on (lowAlloc w2 _)).grown g1 (fun b e => by have := (own_lt HZ.out.own e).1; omega)); have O1 := hid o1; obtain ⟨av, lv, cv, hv⟩ := own_form9 o1; subst hv; have s1 := HY2.out.s1; have hf2 := HY2.out.sf 1; clear o1 g1 hfz)))
                have O9 := hid (show OwnI (w3.setCell ⟨S, 1, none⟩ (.slice av lv cv)) (S + 1) (.slice av lv cv) (msR (64 * k + (b + 1)) T) by
                  have e9 : msR (64 * k + (b + 1)) T = msR (64 * k + b) T ++ [64 * (k : Int) + (b : Int)] := by rw [hmul.out]; exact HMS.out
                  rw [e9]; exact own_set O1.out _ (fun e => by have := (own_lt O1.out e).1; omega))
                have Z9 := hid (show Fz w (w3.setCell ⟨S, 1, none⟩ (.slice av lv cv)) S n (64 * k + (b + 1)) (.slice av lv cv) T from ⟨HY2.out.put _, O9.out, HIN.out⟩)
                exact ⟨⟨b + 1, _, by omega, by go_num, Z9⟩, by simp [intOf]; omega⟩
          · obtain rfl : b = 64 := by omega
            have Z9 := hid (show Fz w wr S n (64 * (k + 1)) v T from HZ.out)
            go_wp2_with fail
            exact ⟨⟨k + 1, v, by omega, by go_num, Z9⟩, by simp [intOf]; omega⟩
    · obtain rfl : k = L := by omega
      have s0 := HZ.out.fx.s0
      have s1 := HZ.out.fx.s1
      have r0 := HZ.out.fx.r0
      have r1 := HZ.out.fx.r1
      have f0 := HZ.out.fx.rf 0
      have f1 := HZ.out.fx.rf 1
      have XL := hid HZ.out.fx.low
      have hnL : n ≤ 64 * k := by have := hq.out; unfold nw at this; omega
      have HF := hid (fun i (h1 : n ≤ i) => show T i = false by
        by_cases c : i < 64 * k
        · exact HZ.out.in' i h1 c
        · exact HMO.out i (by omega))
      have HOW := hid (show OwnI wr (S + 1) v (msR n T) by rw [← msR_gap T hnL (fun i h1 _ => HF.out i h1)]; exact HZ.out.own)
      obtain ⟨av, lv, cv, hv⟩ := own_form9 HOW.out
      subst hv
      have hSl := HZ.out.fx.lt
      have F9 := hid (fun e => by have := (own_lt HOW.out e).1; omega : Value.ownBlock (.slice av lv cv) ≠ some w.heap.size)
      have O9 := hid (own_mono HOW.out (show w.heap.size ≤ S + 1 by omega))
      clear hlt HZ HOW
      go_wp2_with fail
      refine bodyPost_ret (v := .tuple #[.agg #[.int .i64 (n : Int), .slice av lv cv], .int .i64 0]) ?_ rfl ⟨Or.inl ⟨_, rfl, own_set (own_set O9.out _ F9.out) _ F9.out, HF.out⟩, below_st (below_st XL.out _ _ _ (by omega)) _ _ _ (by omega)⟩
      rw [results_cell_tmp rfl]
      go_simp
end Go.Proofs.YtkagdmhijjfnnaaDoor
