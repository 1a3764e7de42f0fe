import Derived.Test.YtbplmglddinkdaaDoorXO
import Derived.Test.YtbplmglddinkdaaDoorXT
namespace Go.Proofs.YtbplmglddinkdaaDoor.L
open Go.RowKit Go.Shelf
set_option linter.unusedVariables false
theorem tok_kind {s : ByteArray} {k : Nat} {t : Tok} (h : tokS s k = .ok t) : t.kind ≠ 0 := by
  unfold tokS at h
  split at h
  · cases hx : txS s k (k + 1) [] with
    | bad c a => rw [hx] at h; exact RR.noConfusion h
    | ok l e => rw [hx] at h; have := RR.ok.inj h; subst this; simp
  · split at h
    · unfold numTok at h
      split at h
      · exact RR.noConfusion h
      · have := RR.ok.inj h; subst this; simp
    · split at h
      · have := RR.ok.inj h; subst this; simp
      · unfold markS at h
        split at h
        · have := RR.ok.inj h; subst this; simp
        · split at h
          · have := RR.ok.inj h; subst this; simp
          · exact RR.noConfusion h
theorem tok_code {s : ByteArray} {k c a : Nat} (h : tokS s k = .bad c a) : c ≠ 0 := by
  unfold tokS at h
  split at h
  · cases hx : txS s k (k + 1) [] with
    | bad c' a' => rw [hx] at h; obtain ⟨rfl, _⟩ := RR.bad.inj h; exact txS_nz s k (k + 1) [] _ _ hx
    | ok l e => rw [hx] at h; exact RR.noConfusion h
  · split at h
    · unfold numTok at h
      split at h
      · obtain ⟨rfl, _⟩ := RR.bad.inj h; decide
      · exact RR.noConfusion h
    · split at h
      · exact RR.noConfusion h
      · unfold markS at h
        split at h
        · exact RR.noConfusion h
        · split at h
          · exact RR.noConfusion h
          · obtain ⟨rfl, _⟩ := RR.bad.inj h; decide
theorem scan_code (s : ByteArray) : ∀ (n k : Nat), s.size - k = n → ∀ c a, (scanS s k).2 = some (c, a) → c ≠ 0 := by
  intro n
  induction n using Nat.strongRecOn with
  | ind n ih =>
    intro k hn c a h
    by_cases hl : gapS s k < s.size
    · cases ht : tokS s (gapS s k) with
      | bad c' a' =>
        rw [scan_bad hl ht] at h
        have := Option.some.inj h
        cases this
        exact tok_code ht
      | ok t =>
        rw [scan_go hl ht] at h
        have h1 := tok_in hl ht
        have h2 := gapS_ge s k
        exact ih (s.size - t.e) (by omega) t.e rfl c a h
    · rw [scan_fin hl] at h
      cases h
theorem scanT_code (s : ByteArray) {c a : Nat} (h : (scanT s).2 = some (c, a)) : c ≠ 0 := by
  unfold scanT at h
  split at h
  · exact scan_code s _ 0 rfl c a h
  · cases h
    decide
theorem ownt_new (w : World) : OwnT (w.alloc (.cells #[] 39)) w.heap.size (.slice (some ⟨w.heap.size, 0, none⟩) 0 0) [] := World.ownsRow_made w #[] 0 (Nat.le_refl _) (Nat.zero_le _) rfl
theorem ownt_form {w : World} {base : Nat} {v : Value} {l : List Tok} (h : OwnT w base v l) : ∃ a cap, v = .slice a l.length cap := by
  rcases h.2 with ⟨e, n0⟩ | ⟨g, cap, cur, e, _⟩
  · exact ⟨none, 0, by rw [e, n0]⟩
  · exact ⟨_, _, e⟩
theorem ownt_low {w w' : World} {base : Nat} {v : Value} {l : List Tok} (h : OwnT w base v l) (hk : Below w.heap.size w w') : OwnT w' base v l :=
  World.ownsRow.kept (row := none) h ⟨hk.os, hk.tape, hk.output, hk.size, fun k hkl _ => hk.block k hkl⟩ (by cases v.ownBlock <;> simp)
def ca (o : Option (Nat × Nat)) : Nat × Nat := o.getD (0, 0)
set_option maxHeartbeats 8000000 in
set_option maxRecDepth 100000 in
theorem prefix_any (s : ByteArray) (w : World) : Calls Tryd.prog 13 #[.string s] w fun e w' => Below w.heap.size w w' ∧
    ∃ v, e = .returned (.tuple #[v, .int .i64 ((ca (scanT s).2).1 : Nat), .int .i64 ((ca (scanT s).2).2 : Nat)]) ∧ OwnT w' w.heap.size v (scanT s).1 := by
  by_cases hs : s.size ≤ 4096
  · have e1 : scanT s = scanS s 0 := if_pos hs
    rw [e1]
    clear e1
    have hs' : ¬ (4096 : Int) < s.size := by omega
    obtain ⟨i0, hi, hz0, hz1i, hz2⟩ := info_parts infoT
    have HLN := hid (show (scanS s 0).1.length ≤ 4097 by have := scan_len s _ 0 rfl (Nat.zero_le _); omega)
    go_enter Tryd.func13, Tryd.ntmps13
    go_wp2_with fail
    have O0 := hid (ownt_new w)
    have BL0 := hid (belowA w (.cells #[] 39))
    generalize w.alloc (.cells #[] 39) = W0 at *
    go_loopw [5, 6] (fun v i wr => ∃ (k : Nat) (pre : List Tok), k ≤ s.size ∧ i = .int .i64 k ∧ Hid (Below w.heap.size w wr) ∧ Hid (OwnT wr w.heap.size v pre) ∧ Hid (pre ++ (scanS s k).1 = (scanS s 0).1) ∧ Hid ((scanS s k).2 = (scanS s 0).2)) (fun _ i _ => s.size - (intOf i).toNat)
    case atStart => exact ⟨0, [], Nat.zero_le _, rfl, BL0, O0, rfl, rfl⟩
    case round =>
      clear O0 BL0
      obtain ⟨k, pre, hk, rfl, HB, OW, HP, HE⟩ := hrel
      obtain ⟨va, vc, rfl⟩ := ownt_form OW.out
      have HG := hid (fun W => rgap_any s k W hs hk)
      have hge := gapS_ge s k
      have hgi := (gapS_in s _ k rfl hk).2
      by_cases hl : gapS s k < s.size
      · have HT := hid (fun W => tokat_any s (gapS s k) W hs hl)
        cases ht : tokS s (gapS s k) with
        | bad c a =>
          have HSC := hid (scan_bad hl ht)
          rw [HSC.out] at HP HE
          have h0 : (c : Int) ≠ 0 := by have := tok_code ht; omega
          have h0' : ((c : Int) == 0) = false := by simpa using h0
          rw [ht] at HT
          unfold refV tv tok0 at HT
          simp only [] at HT
          clear ht
          generalize gapS s k = g at *
          go_wp2_with (first | (go_at_call 20; refine (HG.out _).mono ?_; rintro e w1 ⟨rfl, hww⟩; have hw2 := hww.symm; clear hww; subst hw2) | (go_at_call 21; refine (HT.out _).mono ?_; rintro x w1 ⟨rfl, l1⟩; have L1 := hid l1; clear l1))
          (try simp only [Exit.inBlock, Exit.then])
          refine bodyPost_ret (results_tmp3 rfl _ _ _) rfl ?_
          have hz := HB.out.size
          refine ⟨(HB.out.trans (L1.out.mono hz)).alloc (Nat.le_trans hz L1.out.size) _, .slice va pre.length vc, ?_, ?_⟩
          · rw [← HE.out]
            rfl
          · rw [← HP.out, List.append_nil]
            exact World.ownsRow.alloc (ownt_low OW.out L1.out) _
        | ok t =>
          have HSC := hid (scan_go hl ht)
          have hin := tok_in hl ht
          rw [HSC.out] at HP HE
          have hkd := tok_kind ht
          rw [ht] at HT
          unfold refV tv at HT
          simp only [] at HT
          clear ht
          generalize gapS s k = g at *
          obtain ⟨xk, xt, xn, xa, xe⟩ := t
          simp only at hin hkd HT
          have h3 : g = xa := hin.1.symm
          have hin2 := hin.2
          clear hin
          subst h3
          have hkd' : ((xk : Int) == 0) = false := by simp; omega
          have hkd2 : ¬ (xk : Int) = 0 := by omega
          go_upto_region 9 with (first | (go_at_call 20; refine (HG.out _).mono ?_; rintro e w1 ⟨rfl, hww⟩; have hw2 := hww.symm; clear hww; subst hw2) | (go_at_call 21; refine (HT.out _).mono ?_; rintro x w1 ⟨rfl, l1⟩; have L1 := hid l1; clear l1))
          have hz := HB.out.size
          have hz1 := L1.out.size
          have B0 := hid ((HB.out.trans (L1.out.mono hz)).alloc (Nat.le_trans hz hz1) (.cells #[.int .i64 xk, .string xt, .int .i64 xn, .int .i64 g, .int .i64 xe] 39))
          have O0 := hid (World.ownsRow.alloc (ownt_low OW.out L1.out) (.cells #[.int .i64 xk, .string xt, .int .i64 xn, .int .i64 g, .int .i64 xe] 39))
          have WT := hid (heap_alloc_new w1 (.cells #[.int .i64 xk, .string xt, .int .i64 xn, .int .i64 g, .int .i64 xe] 39))
          have own0 := hid (ownt_block (ownt_low OW.out L1.out))
          have HBS := hid (show (w1.alloc (.cells #[.int .i64 xk, .string xt, .int .i64 xn, .int .i64 g, .int .i64 xe] 39)).heap.size = w1.heap.size + 1 by simp)
          clear HB OW L1
          generalize w1.alloc (.cells #[.int .i64 xk, .string xt, .int .i64 xn, .int .i64 g, .int .i64 xe] 39) = V at *
          have hlen : pre.length + 1 ≤ 4097 := by
            have := congrArg List.length HP.out
            rw [List.length_append] at this
            have h2 := HLN.out
            simp at this
            omega
          have ⟨q0, q1, q2, q3, q4⟩ := tcells WT.out
          generalize w1.heap.size = b at *
          go_wp2_with (at_builtin; refine wpList_append_own _ rfl _ _ 24 rfl w.heap.size 39 i0 (.agg #[.int .i64 0, .string ByteArray.empty, .int .i64 0, .int .i64 0, .int .i64 0]) 5 48 Tryd.underlying24 hi hz0 hz1i hz2 rfl (by decide) _ _ _ rfl (O0.out.alloc _) ⟨V.heap.size, 0, none⟩ 1 1 [.int .i64 xk, .string xt, .int .i64 xn, .int .i64 g, .int .i64 xe] rfl rfl ?c1 ?c2 ?c3 ?c4 ?c5 ?_)
          case c1 => exact cell_five_new _ _ _ _ _ _ _
          case c2 => intro x hx; simp at hx; rcases hx with rfl | rfl | rfl | rfl | rfl <;> rfl
          case c3 => unfold maxLen; omega
          case c4 => omega
          case c5 => have := B0.out.size; simp; omega
          intro v' w2 hown' hgrow _
          have hbs := HBS.out
          have hz5 := B0.out.size
          have B1 := hid (show Below w.heap.size w w2 from (B0.out.alloc hz5 _).grown hgrow (by simp; omega) (fun k e => (own0.out k e).1))
          have O1 := hid (show OwnT w2 w.heap.size v' (pre ++ [⟨xk, xt, xn, g, xe⟩]) by unfold OwnT; rw [List.length_append, cellsT_snoc]; exact hown')
          have WT2 := hid (show w2.heap[b]? = _ from ((hgrow.block b (by simp; omega) (by intro e; have := own0.out b e.symm; omega)).trans (Below.heap_alloc _ _ _ (by omega))).trans WT.out)
          clear q0 q1 q2 q3 q4
          have ⟨q0, q1, q2, q3, q4⟩ := tcells WT2.out
          obtain ⟨va', vc', rfl⟩ := ownt_form O1.out
          clear hown' hgrow O0 B0 hbs
          go_wp2_with fail
          (try simp only [Exit.inBlock, Exit.then])
          refine ⟨⟨xe, pre ++ [⟨xk, xt, xn, g, xe⟩], hin2.2, rfl, B1, O1, ?_, HE⟩, ?_⟩
          · rw [List.append_assoc]; exact HP
          · simp [intOf]
            omega
      · have hge2 : gapS s k = s.size := by omega
        have HT := hid (fun W => tokat_end s W hs)
        have HSC := hid (scan_fin hl)
        rw [HSC.out] at HP HE
        rw [hge2] at HG
        unfold refV tv tokE at HT
        simp only [] at HT
        obtain ⟨xk, hxk⟩ : ∃ xk : Nat, xk = 0 := ⟨0, rfl⟩
        obtain ⟨xt, hxt⟩ : ∃ xt : ByteArray, xt = ⟨#[]⟩ := ⟨_, rfl⟩
        obtain ⟨xn, hxn⟩ : ∃ xn : Int, xn = 0 := ⟨0, rfl⟩
        obtain ⟨xa, hxa⟩ : ∃ xa : Nat, xa = s.size := ⟨_, rfl⟩
        obtain ⟨xe, hxe⟩ : ∃ xe : Nat, xe = s.size := ⟨_, rfl⟩
        have HPR := hid (show pre ++ [⟨xk, xt, xn, xa, xe⟩] = (scanS s 0).1 by rw [← HP.out, hxk, hxt, hxn, hxa, hxe]; rfl)
        clear hl hge hgi hge2
        subst hxk hxt hxn hxa hxe
        go_upto_region 9 with (first | (go_at_call 20; refine (HG.out _).mono ?_; rintro e w1 ⟨rfl, hww⟩; have hw2 := hww.symm; clear hww; subst hw2) | (go_at_call 21; refine (HT.out _).mono ?_; rintro x w1 ⟨rfl, l1⟩; have L1 := hid l1; clear l1))
        have hz := HB.out.size
        have hz1 := L1.out.size
        have B0 := hid ((HB.out.trans (L1.out.mono hz)).alloc (Nat.le_trans hz hz1) (.cells #[.int .i64 0, .string ⟨#[]⟩, .int .i64 0, .int .i64 s.size, .int .i64 s.size] 39))
        have O0 := hid (World.ownsRow.alloc (ownt_low OW.out L1.out) (.cells #[.int .i64 0, .string ⟨#[]⟩, .int .i64 0, .int .i64 s.size, .int .i64 s.size] 39))
        have WT := hid (heap_alloc_new w1 (.cells #[.int .i64 0, .string ⟨#[]⟩, .int .i64 0, .int .i64 s.size, .int .i64 s.size] 39))
        have own0 := hid (ownt_block (ownt_low OW.out L1.out))
        have HBS := hid (show (w1.alloc (.cells #[.int .i64 0, .string ⟨#[]⟩, .int .i64 0, .int .i64 s.size, .int .i64 s.size] 39)).heap.size = w1.heap.size + 1 by simp)
        clear HB OW L1
        generalize w1.alloc (.cells #[.int .i64 0, .string ⟨#[]⟩, .int .i64 0, .int .i64 s.size, .int .i64 s.size] 39) = V at *
        have hlen : pre.length + 1 ≤ 4097 := by
          have := congrArg List.length HPR.out
          rw [List.length_append] at this
          have h2 := HLN.out
          simp at this
          omega
        have ⟨q0, q1, q2, q3, q4⟩ := tcells WT.out
        generalize w1.heap.size = b at *
        go_wp2_with (at_builtin; refine wpList_append_own _ rfl _ _ 24 rfl w.heap.size 39 i0 (.agg #[.int .i64 0, .string ByteArray.empty, .int .i64 0, .int .i64 0, .int .i64 0]) 5 48 Tryd.underlying24 hi hz0 hz1i hz2 rfl (by decide) _ _ _ rfl (O0.out.alloc _) ⟨V.heap.size, 0, none⟩ 1 1 [.int .i64 0, .string ⟨#[]⟩, .int .i64 0, .int .i64 s.size, .int .i64 s.size] rfl rfl ?c1 ?c2 ?c3 ?c4 ?c5 ?_)
        case c1 => exact cell_five_new _ _ _ _ _ _ _
        case c2 => intro x hx; simp at hx; rcases hx with rfl | rfl | rfl | rfl | rfl <;> rfl
        case c3 => unfold maxLen; omega
        case c4 => omega
        case c5 => have := B0.out.size; simp; omega
        intro v' w2 hown' hgrow _
        have hbs := HBS.out
        have hz5 := B0.out.size
        have B1 := hid (show Below w.heap.size w w2 from (B0.out.alloc hz5 _).grown hgrow (by simp; omega) (fun k e => (own0.out k e).1))
        have O1 := hid (show OwnT w2 w.heap.size v' (pre ++ [⟨0, ⟨#[]⟩, 0, s.size, s.size⟩]) by unfold OwnT; rw [List.length_append, cellsT_snoc]; exact hown')
        have WT2 := hid (show w2.heap[b]? = _ from ((hgrow.block b (by simp; omega) (by intro e; have := own0.out b e.symm; omega)).trans (Below.heap_alloc _ _ _ (by omega))).trans WT.out)
        clear q0 q1 q2 q3 q4
        have ⟨q0, q1, q2, q3, q4⟩ := tcells WT2.out
        obtain ⟨va', vc', rfl⟩ := ownt_form O1.out
        clear hown' hgrow O0 B0 hbs
        go_wp2_with fail
        (try simp only [Exit.inBlock, Exit.then])
        refine bodyPost_ret (results_tmp3 rfl _ _ _) rfl ⟨B1.out, .slice va' (pre ++ [(⟨0, ⟨#[]⟩, 0, s.size, s.size⟩ : Tok)]).length vc', ?_, ?_⟩
        · rw [← HE.out]
          rfl
        · rw [← HPR.out]
          exact O1.out
  · have e1 : scanT s = ([], some (110, 4096)) := if_neg hs
    rw [e1]
    clear e1
    have hs' : (4096 : Int) < s.size := by omega
    go_enter Tryd.func13, Tryd.ntmps13
    go_wp2_with fail
    (try simp only [Exit.inBlock, Exit.then])
    refine bodyPost_ret (results_tmp3 rfl _ _ _) rfl ⟨Below.refl _ _, _, rfl, World.ownsRow_nil _ _ _ _⟩
/-- The document's Scan: like the program's, its fault told by two numbers. -/
theorem rscan_any (s : ByteArray) (w : World) : Calls Tryd.prog 10 #[.string s] w fun e w' => Below w.heap.size w w' ∧
    ((∃ v, (scanT s).2 = none ∧ e = .returned (.tuple #[v, .int .i64 0, .int .i64 0]) ∧ OwnT w' w.heap.size v (scanT s).1) ∨
     (∃ c a : Nat, (scanT s).2 = some (c, a) ∧ e = .returned (.tuple #[.slice none 0 0, .int .i64 (c : Int), .int .i64 (a : Int)]))) := by
  have HP := hid (prefix_any s w)
  cases h2 : (scanT s).2 with
  | none =>
    rw [h2] at HP
    unfold ca at HP
    go_enter Tryd.func10, Tryd.ntmps10
    go_wp2_with (go_at_call 13; refine HP.out.mono ?_; rintro x w1 ⟨l1, v, rfl, o1⟩; have L1 := hid l1; have O1 := hid o1; clear l1 o1)
    (try simp only [Exit.inBlock, Exit.then])
    refine bodyPost_ret (results_tmp3 rfl _ _ _) rfl ⟨L1.out, .inl ⟨v, by first | trivial | rfl, rfl, O1.out⟩⟩
  | some p =>
    obtain ⟨c, a⟩ := p
    have h0 : (c : Int) ≠ 0 := by have := scanT_code s h2; omega
    have h0' : ((c : Int) == 0) = false := by simpa using h0
    rw [h2] at HP
    unfold ca at HP
    simp only [Option.getD_some] at HP
    clear h2
    go_enter Tryd.func10, Tryd.ntmps10
    go_wp2_with (go_at_call 13; refine HP.out.mono ?_; rintro x w1 ⟨l1, v, rfl, o1⟩; have L1 := hid l1; have O1 := hid o1; clear l1 o1)
    (try simp only [Exit.inBlock, Exit.then])
    refine bodyPost_ret (results_tmp3 rfl _ _ _) rfl ⟨L1.out, .inr ⟨c, a, by first | trivial | rfl, rfl⟩⟩
end Go.Proofs.YtbplmglddinkdaaDoor.L
