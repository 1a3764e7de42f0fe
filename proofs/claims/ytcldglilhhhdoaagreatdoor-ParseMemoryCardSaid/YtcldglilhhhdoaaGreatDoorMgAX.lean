import Derived.Test.YtcldglilhhhdoaaGreatDoorMgAW
import Derived.Test.YtcldglilhhhdoaaGreatDoorMgAH
import Derived.Test.YtcldglilhhhdoaaGreatDoorPfR
import Derived.Test.YtcldglilhhhdoaaGreatDoorPgA
namespace Go.Proofs.YtcldglilhhhdoaaGreatDoor.L
open Go.RowKit Go.Shelf
set_option linter.unusedVariables false
theorem tok_kind {s : ByteArray} {k : Nat} {t : Tok} (h : tokS s k = .ok t) : t.kind ≠ 0 := by
  unfold tokS at h
  split at h
  · cases hx : txS s k (k + 1) [] with
    | bad c a => rw [hx] at h; exact RR.noConfusion h
    | ok l e => rw [hx] at h; have := RR.ok.inj h; subst this; simp
  · split at h
    · unfold numTok at h
      split at h
      · exact RR.noConfusion h
      · have := RR.ok.inj h; subst this; simp
    · split at h
      · have := RR.ok.inj h; subst this; simp
      · unfold markS at h
        split at h
        · have := RR.ok.inj h; subst this; simp
        · split at h
          · have := RR.ok.inj h; subst this; simp
          · exact RR.noConfusion h
theorem tok_code {s : ByteArray} {k c a : Nat} (h : tokS s k = .bad c a) : c ≠ 0 := by
  unfold tokS at h
  split at h
  · cases hx : txS s k (k + 1) [] with
    | bad c' a' => rw [hx] at h; obtain ⟨rfl, _⟩ := RR.bad.inj h; exact txS_nz s k (k + 1) [] _ _ hx
    | ok l e => rw [hx] at h; exact RR.noConfusion h
  · split at h
    · unfold numTok at h
      split at h
      · obtain ⟨rfl, _⟩ := RR.bad.inj h; decide
      · exact RR.noConfusion h
    · split at h
      · exact RR.noConfusion h
      · unfold markS at h
        split at h
        · exact RR.noConfusion h
        · split at h
          · exact RR.noConfusion h
          · obtain ⟨rfl, _⟩ := RR.bad.inj h; decide
theorem scan_code (s : ByteArray) : ∀ (n k : Nat), s.size - k = n → ∀ c a, (scanS s k).2 = some (c, a) → c ≠ 0 := by
  intro n
  induction n using Nat.strongRecOn with
  | ind n ih =>
    intro k hn c a h
    by_cases hl : gapS s k < s.size
    · cases ht : tokS s (gapS s k) with
      | bad c' a' =>
        rw [scan_bad hl ht] at h
        have := Option.some.inj h
        cases this
        exact tok_code ht
      | ok t =>
        rw [scan_go hl ht] at h
        have h1 := tok_in hl ht
        have h2 := gapS_ge s k
        exact ih (s.size - t.e) (by omega) t.e rfl c a h
    · rw [scan_fin hl] at h
      cases h
theorem scanT_code (s : ByteArray) {c a : Nat} (h : (scanT s).2 = some (c, a)) : c ≠ 0 := by
  unfold scanT at h
  split at h
  · exact scan_code s _ 0 rfl c a h
  · cases h
    decide
theorem ownt_new (w : World) : OwnT (w.alloc (.cells #[] 53)) w.heap.size (.slice (some ⟨w.heap.size, 0, none⟩) 0 0) [] := World.ownsRow_made w #[] 0 (Nat.le_refl _) (Nat.zero_le _) rfl
theorem ownt_form {w : World} {base : Nat} {v : Value} {l : List Tok} (h : OwnT w base v l) : ∃ a cap, v = .slice a l.length cap := by
  rcases h.2 with ⟨e, n0⟩ | ⟨g, cap, cur, e, _⟩
  · exact ⟨none, 0, by rw [e, n0]⟩
  · exact ⟨_, _, e⟩
theorem ownt_lowx {w w' : World} {base : Nat} {v : Value} {l : List Tok} (h : OwnT w base v l) (hk : Below w.heap.size w w') : OwnT w' base v l :=
  World.ownsRow.kept (row := none) h ⟨hk.os, hk.tape, hk.output, hk.size, fun k hkl _ => hk.block k hkl⟩ (by cases v.ownBlock <;> simp)
def ca (o : Option (Nat × Nat)) : Nat × Nat := o.getD (0, 0)
set_option maxHeartbeats 8000000 in
set_option maxRecDepth 100000 in
theorem prefix_any (s : ByteArray) (w : World) : Calls Tryz.prog 38 #[.string s] w fun e w' => Below w.heap.size w w' ∧
    ∃ v, e = .returned (.tuple #[v, .int .i64 ((ca (scanT s).2).1 : Nat), .int .i64 ((ca (scanT s).2).2 : Nat)]) ∧ OwnT w' w.heap.size v (scanT s).1 := by
  by_cases hs : s.size ≤ 4096
  · have e1 : scanT s = scanS s 0 := if_pos hs
    rw [e1]
    clear e1
    have hs' : ¬ (4096 : Int) < s.size := by omega
    obtain ⟨i0, hi, hz0, hz1i, hz2⟩ := info_parts infoT
    have HLN := hid (show (scanS s 0).1.length ≤ 4097 by have := scan_len s _ 0 rfl (Nat.zero_le _); omega)
    go_enter Tryz.func38, Tryz.ntmps38
    go_wp2_with fail
    have O0 := hid (ownt_new w)
    have BL0 := hid (belowA w (.cells #[] 53))
    generalize w.alloc (.cells #[] 53) = W0 at *
    go_loopw [5, 6] (fun v i wr => ∃ (k : Nat) (pre : List Tok), k ≤ s.size ∧ i = .int .i64 k ∧ Hid (Below w.heap.size w wr) ∧ Hid (OwnT wr w.heap.size v pre) ∧ Hid (pre ++ (scanS s k).1 = (scanS s 0).1) ∧ Hid ((scanS s k).2 = (scanS s 0).2)) (fun _ i _ => s.size - (intOf i).toNat)
    case atStart => exact ⟨0, [], Nat.zero_le _, rfl, BL0, O0, rfl, rfl⟩
    case round =>
      clear O0 BL0
      obtain ⟨k, pre, hk, rfl, HB, OW, HP, HE⟩ := hrel
      obtain ⟨va, vc, rfl⟩ := ownt_form OW.out
      have HG := hid (fun W => rgap_any s k W hs hk)
      have hge := gapS_ge s k
      have hgi := (gapS_in s _ k rfl hk).2
      by_cases hl : gapS s k < s.size
      · have HT := hid (fun W => tokat_any s (gapS s k) W hs hl)
        cases ht : tokS s (gapS s k) with
        | bad c a =>
          have HSC := hid (scan_bad hl ht)
          rw [HSC.out] at HP HE
          have h0 : (c : Int) ≠ 0 := by have := tok_code ht; omega
          have h0' : ((c : Int) == 0) = false := by simpa using h0
          rw [ht] at HT
          unfold refV tv tok0 at HT
          simp only [] at HT
          clear ht
          generalize gapS s k = g at *
          go_wp2_with (first | (go_at_call 54; refine (HG.out _).mono ?_; rintro e w1 ⟨rfl, hww⟩; have hw2 := hww.symm; clear hww; subst hw2) | (go_at_call 55; refine (HT.out _).mono ?_; rintro x w1 ⟨rfl, l1⟩; have L1 := hid l1; clear l1))
          (try simp only [Exit.inBlock, Exit.then])
          refine bodyPost_ret (results_tmp3 rfl _ _ _) rfl ?_
          have hz := HB.out.size
          refine ⟨(HB.out.trans (L1.out.mono hz)).alloc (Nat.le_trans hz L1.out.size) _, .slice va pre.length vc, ?_, ?_⟩
          · rw [← HE.out]
            rfl
          · rw [← HP.out, List.append_nil]
            exact World.ownsRow.alloc (ownt_lowx OW.out L1.out) _
        | ok t =>
          have HSC := hid (scan_go hl ht)
          have hin := tok_in hl ht
          rw [HSC.out] at HP HE
          have hkd := tok_kind ht
          rw [ht] at HT
          unfold refV tv at HT
          simp only [] at HT
          clear ht
          generalize gapS s k = g at *
          obtain ⟨xk, xt, xn, xa, xe⟩ := t
          simp only at hin hkd HT
          have h3 : g = xa := hin.1.symm
          have hin2 := hin.2
          clear hin
          subst h3
          have hkd' : ((xk : Int) == 0) = false := by simp; omega
          have hkd2 : ¬ (xk : Int) = 0 := by omega
          go_upto_region 9 with (first | (go_at_call 54; refine (HG.out _).mono ?_; rintro e w1 ⟨rfl, hww⟩; have hw2 := hww.symm; clear hww; subst hw2) | (go_at_call 55; refine (HT.out _).mono ?_; rintro x w1 ⟨rfl, l1⟩; have L1 := hid l1; clear l1))
          have hz := HB.out.size
          have hz1 := L1.out.size
          have B0 := hid ((HB.out.trans (L1.out.mono hz)).alloc (Nat.le_trans hz hz1) (.cells #[.int .i64 xk, .string xt, .int .i64 xn, .int .i64 g, .int .i64 xe] 53))
          have O0 := hid (World.ownsRow.alloc (ownt_lowx OW.out L1.out) (.cells #[.int .i64 xk, .string xt, .int .i64 xn, .int .i64 g, .int .i64 xe] 53))
          have WT := hid (heap_alloc_new w1 (.cells #[.int .i64 xk, .string xt, .int .i64 xn, .int .i64 g, .int .i64 xe] 53))
          have own0 := hid (ownt_block (ownt_lowx OW.out L1.out))
          have HBS := hid (show (w1.alloc (.cells #[.int .i64 xk, .string xt, .int .i64 xn, .int .i64 g, .int .i64 xe] 53)).heap.size = w1.heap.size + 1 by simp)
          clear HB OW L1
          generalize w1.alloc (.cells #[.int .i64 xk, .string xt, .int .i64 xn, .int .i64 g, .int .i64 xe] 53) = V at *
          have hlen : pre.length + 1 ≤ 4097 := by
            have := congrArg List.length HP.out
            rw [List.length_append] at this
            have h2 := HLN.out
            simp at this
            omega
          have ⟨q0, q1, q2, q3, q4⟩ := tcells WT.out
          generalize w1.heap.size = b at *
          go_wp2_with (at_builtin; refine wpList_append_own _ rfl _ _ 47 rfl w.heap.size 53 i0 (.agg #[.int .i64 0, .string ByteArray.empty, .int .i64 0, .int .i64 0, .int .i64 0]) 5 48 Tryz.underlying47 hi hz0 hz1i hz2 rfl (by decide) _ _ _ rfl (O0.out.alloc _) ⟨V.heap.size, 0, none⟩ 1 1 [.int .i64 xk, .string xt, .int .i64 xn, .int .i64 g, .int .i64 xe] rfl rfl ?c1 ?c2 ?c3 ?c4 ?c5 ?_)
          case c1 => exact cell_five_new _ _ _ _ _ _ _
          case c2 => intro x hx; simp at hx; rcases hx with rfl | rfl | rfl | rfl | rfl <;> rfl
          case c3 => unfold maxLen; omega
          case c4 => omega
          case c5 => have := B0.out.size; simp; omega
          intro v' w2 hown' hgrow _
          have hbs := HBS.out
          have hz5 := B0.out.size
          have B1 := hid (show Below w.heap.size w w2 from (B0.out.alloc hz5 _).grown hgrow (by simp; omega) (fun k e => (own0.out k e).1))
          have O1 := hid (show OwnT w2 w.heap.size v' (pre ++ [⟨xk, xt, xn, g, xe⟩]) by unfold OwnT; rw [List.length_append, cellsT_snoc]; exact hown')
          have WT2 := hid (show w2.heap[b]? = _ from ((hgrow.block b (by simp; omega) (by intro e; have := own0.out b e.symm; omega)).trans (Below.heap_alloc _ _ _ (by omega))).trans WT.out)
          clear q0 q1 q2 q3 q4
          have ⟨q0, q1, q2, q3, q4⟩ := tcells WT2.out
          obtain ⟨va', vc', rfl⟩ := ownt_form O1.out
          clear hown' hgrow O0 B0 hbs
          go_wp2_with fail
          (try simp only [Exit.inBlock, Exit.then])
          refine ⟨⟨xe, pre ++ [⟨xk, xt, xn, g, xe⟩], hin2.2, rfl, B1, O1, ?_, HE⟩, ?_⟩
          · rw [List.append_assoc]; exact HP
          · simp [intOf]
            omega
      · have hge2 : gapS s k = s.size := by omega
        have HT := hid (fun W => tokat_end s W hs)
        have HSC := hid (scan_fin hl)
        rw [HSC.out] at HP HE
        rw [hge2] at HG
        unfold refV tv tokE at HT
        simp only [] at HT
        obtain ⟨xk, hxk⟩ : ∃ xk : Nat, xk = 0 := ⟨0, rfl⟩
        obtain ⟨xt, hxt⟩ : ∃ xt : ByteArray, xt = ⟨#[]⟩ := ⟨_, rfl⟩
        obtain ⟨xn, hxn⟩ : ∃ xn : Int, xn = 0 := ⟨0, rfl⟩
        obtain ⟨xa, hxa⟩ : ∃ xa : Nat, xa = s.size := ⟨_, rfl⟩
        obtain ⟨xe, hxe⟩ : ∃ xe : Nat, xe = s.size := ⟨_, rfl⟩
        have HPR := hid (show pre ++ [⟨xk, xt, xn, xa, xe⟩] = (scanS s 0).1 by rw [← HP.out, hxk, hxt, hxn, hxa, hxe]; rfl)
        clear hl hge hgi hge2
        subst hxk hxt hxn hxa hxe
        go_upto_region 9 with (first | (go_at_call 54; refine (HG.out _).mono ?_; rintro e w1 ⟨rfl, hww⟩; have hw2 := hww.symm; clear hww; subst hw2) | (go_at_call 55; refine (HT.out _).mono ?_; rintro x w1 ⟨rfl, l1⟩; have L1 := hid l1; clear l1))
        have hz := HB.out.size
        have hz1 := L1.out.size
        have B0 := hid ((HB.out.trans (L1.out.mono hz)).alloc (Nat.le_trans hz hz1) (.cells #[.int .i64 0, .string ⟨#[]⟩, .int .i64 0, .int .i64 s.size, .int .i64 s.size] 53))
        have O0 := hid (World.ownsRow.alloc (ownt_lowx OW.out L1.out) (.cells #[.int .i64 0, .string ⟨#[]⟩, .int .i64 0, .int .i64 s.size, .int .i64 s.size] 53))
        have WT := hid (heap_alloc_new w1 (.cells #[.int .i64 0, .string ⟨#[]⟩, .int .i64 0, .int .i64 s.size, .int .i64 s.size] 53))
        have own0 := hid (ownt_block (ownt_lowx OW.out L1.out))
        have HBS := hid (show (w1.alloc (.cells #[.int .i64 0, .string ⟨#[]⟩, .int .i64 0, .int .i64 s.size, .int .i64 s.size] 53)).heap.size = w1.heap.size + 1 by simp)
        clear HB OW L1
        generalize w1.alloc (.cells #[.int .i64 0, .string ⟨#[]⟩, .int .i64 0, .int .i64 s.size, .int .i64 s.size] 53) = V at *
        have hlen : pre.length + 1 ≤ 4097 := by
          have := congrArg List.length HPR.out
          rw [List.length_append] at this
          have h2 := HLN.out
          simp at this
          omega
        have ⟨q0, q1, q2, q3, q4⟩ := tcells WT.out
        generalize w1.heap.size = b at *
        go_wp2_with (at_builtin; refine wpList_append_own _ rfl _ _ 47 rfl w.heap.size 53 i0 (.agg #[.int .i64 0, .string ByteArray.empty, .int .i64 0, .int .i64 0, .int .i64 0]) 5 48 Tryz.underlying47 hi hz0 hz1i hz2 rfl (by decide) _ _ _ rfl (O0.out.alloc _) ⟨V.heap.size, 0, none⟩ 1 1 [.int .i64 0, .string ⟨#[]⟩, .int .i64 0, .int .i64 s.size, .int .i64 s.size] rfl rfl ?c1 ?c2 ?c3 ?c4 ?c5 ?_)
        case c1 => exact cell_five_new _ _ _ _ _ _ _
        case c2 => intro x hx; simp at hx; rcases hx with rfl | rfl | rfl | rfl | rfl <;> rfl
        case c3 => unfold maxLen; omega
        case c4 => omega
        case c5 => have := B0.out.size; simp; omega
        intro v' w2 hown' hgrow _
        have hbs := HBS.out
        have hz5 := B0.out.size
        have B1 := hid (show Below w.heap.size w w2 from (B0.out.alloc hz5 _).grown hgrow (by simp; omega) (fun k e => (own0.out k e).1))
        have O1 := hid (show OwnT w2 w.heap.size v' (pre ++ [⟨0, ⟨#[]⟩, 0, s.size, s.size⟩]) by unfold OwnT; rw [List.length_append, cellsT_snoc]; exact hown')
        have WT2 := hid (show w2.heap[b]? = _ from ((hgrow.block b (by simp; omega) (by intro e; have := own0.out b e.symm; omega)).trans (Below.heap_alloc _ _ _ (by omega))).trans WT.out)
        clear q0 q1 q2 q3 q4
        have ⟨q0, q1, q2, q3, q4⟩ := tcells WT2.out
        obtain ⟨va', vc', rfl⟩ := ownt_form O1.out
        clear hown' hgrow O0 B0 hbs
        go_wp2_with fail
        (try simp only [Exit.inBlock, Exit.then])
        refine bodyPost_ret (results_tmp3 rfl _ _ _) rfl ⟨B1.out, .slice va' (pre ++ [(⟨0, ⟨#[]⟩, 0, s.size, s.size⟩ : Tok)]).length vc', ?_, ?_⟩
        · rw [← HE.out]
          rfl
        · rw [← HPR.out]
          exact O1.out
  · have e1 : scanT s = ([], some (110, 4096)) := if_neg hs
    rw [e1]
    clear e1
    have hs' : (4096 : Int) < s.size := by omega
    go_enter Tryz.func38, Tryz.ntmps38
    go_wp2_with fail
    (try simp only [Exit.inBlock, Exit.then])
    refine bodyPost_ret (results_tmp3 rfl _ _ _) rfl ⟨Below.refl _ _, _, rfl, World.ownsRow_nil _ _ _ _⟩
/-- The document's Scan: like the program's, its fault told by two numbers. -/
theorem rscan_any (s : ByteArray) (w : World) : Calls Tryz.prog 26 #[.string s] w fun e w' => Below w.heap.size w w' ∧
    ((∃ v, (scanT s).2 = none ∧ e = .returned (.tuple #[v, .int .i64 0, .int .i64 0]) ∧ OwnT w' w.heap.size v (scanT s).1) ∨
     (∃ c a : Nat, (scanT s).2 = some (c, a) ∧ e = .returned (.tuple #[.slice none 0 0, .int .i64 (c : Int), .int .i64 (a : Int)]))) := by
  have HP := hid (prefix_any s w)
  cases h2 : (scanT s).2 with
  | none =>
    rw [h2] at HP
    unfold ca at HP
    go_enter Tryz.func26, Tryz.ntmps26
    go_wp2_with (go_at_call 38; refine HP.out.mono ?_; rintro x w1 ⟨l1, v, rfl, o1⟩; have L1 := hid l1; have O1 := hid o1; clear l1 o1)
    (try simp only [Exit.inBlock, Exit.then])
    refine bodyPost_ret (results_tmp3 rfl _ _ _) rfl ⟨L1.out, .inl ⟨v, by first | trivial | rfl, rfl, O1.out⟩⟩
  | some p =>
    obtain ⟨c, a⟩ := p
    have h0 : (c : Int) ≠ 0 := by have := scanT_code s h2; omega
    have h0' : ((c : Int) == 0) = false := by simpa using h0
    rw [h2] at HP
    unfold ca at HP
    simp only [Option.getD_some] at HP
    clear h2
    go_enter Tryz.func26, Tryz.ntmps26
    go_wp2_with (go_at_call 38; refine HP.out.mono ?_; rintro x w1 ⟨l1, v, rfl, o1⟩; have L1 := hid l1; have O1 := hid o1; clear l1 o1)
    (try simp only [Exit.inBlock, Exit.then])
    refine bodyPost_ret (results_tmp3 rfl _ _ _) rfl ⟨L1.out, .inr ⟨c, a, by first | trivial | rfl, rfl⟩⟩
end Go.Proofs.YtcldglilhhhdoaaGreatDoor.L
namespace Go.Proofs.YtcldglilhhhdoaaGreatDoor.L
open Go.RowKit
set_option linter.unusedVariables false
set_option linter.unusedSimpArgs false
theorem cellsW_len : ∀ l : List Wn, (cellsW l).length = l.length * 6
 | [] => rfl
 | w :: l => by
  have := cellsW_len l
  unfold cellsW at this ⊢
  rw [List.flatMap_cons, List.length_append, this]
  show 6 + l.length * 6 = (l.length + 1) * 6
  omega
theorem cellsW_top (w : Wn) (ws : List Wn) : cellsW (w :: ws).reverse = cellsW ws.reverse ++ [.int .i64 w.w, .int .i64 w.kd, .int .i64 w.pos, .string w.text, .int .i64 w.num, .int .i64 (w.base : Int)] := by
 unfold cellsW
 rw [List.reverse_cons, List.flatMap_append]
 simp
theorem MM.wantc {mb B : Nat} {tv : Value} {T : List Tok} {W : World} {s : PS} {ws : List Wn} {fr : List Int} {fl : Array Value} {wv v o f : Value} {ks : Nat → Value} {w : Wn} (h : MM mb B tv T W s (w :: ws) fr fl wv v o f ks) : ∃ g cap, wv = .slice (some ⟨g, 0, none⟩) (ws.length + 1) cap ∧ g < W.heap.size ∧ ws.length + 1 ≤ cap ∧ ∀ r, r < 6 → W.cell? ⟨g, ws.length * 6 + r, none⟩ = ([.int .i64 w.w, .int .i64 w.kd, .int .i64 w.pos, .string w.text, .int .i64 w.num, .int .i64 (w.base : Int)] : List Value)[r]? := by
 rcases h.wants.2 with ⟨_, n0⟩ | ⟨g, cap, cur, rfl, hb, hg, h3, h4, h5, h6⟩
 ·exact absurd n0 (by simp)
 ·refine ⟨g, cap, rfl, lt_blk hg, h3, fun r hr => ?_⟩
  have hl := cellsW_len ws.reverse
  rw [List.length_reverse] at hl
  have e : ((cellsW ws.reverse) ++ ([.int .i64 w.w, .int .i64 w.kd, .int .i64 w.pos, .string w.text, .int .i64 w.num, .int .i64 (w.base : Int)] : List Value))[ws.length * 6 + r]? = ([.int .i64 w.w, .int .i64 w.kd, .int .i64 w.pos, .string w.text, .int .i64 w.num, .int .i64 (w.base : Int)] : List Value)[r]? := by
   rw [List.getElem?_append_right (by omega), show ws.length * 6 + r - (cellsW ws.reverse).length = r by omega]
  rw [cell_of_row W g _ _ _ _ hg, ← e, ← cellsW_top, ← h6, List.getElem?_take_of_lt (by simp only [List.length_cons]; omega), Array.getElem?_toList]
/-- The next thing that is awaited is taken off. -/
theorem MM.lessw {mb B : Nat} {tv : Value} {T : List Tok} {W : World} {s : PS} {ws : List Wn} {fr : List Int} {fl : Array Value} {wv v o f : Value} {ks : Nat → Value} {w : Wn} {g cap : Nat} (h : MM mb B tv T W s (w :: ws) fr fl wv v o f ks) (hv : wv = .slice (some ⟨g, 0, none⟩) (ws.length + 1) cap) : MM mb B tv T (W.setCell ⟨mb, 2, none⟩ (.slice (some ⟨g, 0, none⟩) ws.length cap)) s ws fr fl (.slice (some ⟨g, 0, none⟩) ws.length cap) v o f ks ∧ Fmm B W (W.setCell ⟨mb, 2, none⟩ (.slice (some ⟨g, 0, none⟩) ws.length cap)) := by
 have hk : ∀ k, k ≠ mb → (W.setCell ⟨mb, 2, none⟩ (.slice (some ⟨g, 0, none⟩) ws.length cap)).heap[k]? = W.heap[k]? := fun k hk => heap_setCell_other _ _ _ _ hk
 have key : ∀ {e : TypeId} {base size n : Nat} {u : Value} {xs : List Value}, e ≠ 71 → W.ownsRow base e size u n xs → (W.setCell ⟨mb, 2, none⟩ (.slice (some ⟨g, 0, none⟩) ws.length cap)).ownsRow base e size u n xs := fun he hr => row_kept hr (fun k hkk => hk k (type_box hr h.box he hkk))
 refine ⟨⟨?_, h.fl19, key (by decide) h.tok, ?_, ⟨key (by decide) h.parts.row, fun j hj => key (by decide) (h.parts.kids j hj)⟩, key (by decide) h.offs, key (by decide) h.free, h.mbB, h.nx, h.ns, h.tl, h.fin, h.ko, h.kf, h.of⟩, Fmm.chg h rfl rfl rfl (by rw [World.size_setCell]; exact Nat.le_refl _) (fun k _ hk2 => hk k hk2)⟩
 ·rw [heap_setCell_same _ _ _ _ _ _ h.box]
  cases fl
  simp [mc]
 ·have hw := key (by decide) h.wants
  have hl := cellsW_len ws.reverse
  rw [List.length_reverse] at hl
  refine ⟨hl, Or.inr ?_⟩
  rcases hw.2 with ⟨_, n0⟩ | ⟨g', cap', cur, e, hb, hg, h3, h4, h5, h6⟩
  ·exact absurd n0 (by simp)
  ·rw [hv] at e
   injection e with e1 e2 e3
   injection e1 with e1
   injection e1 with e1
   subst e1 e3
   refine ⟨g, cap, cur, rfl, hb, hg, by simp only [List.length_cons] at h3; omega, h4, h5, ?_⟩
   have h7 := congrArg (List.take (ws.length * 6)) h6
   rw [List.take_take, cellsW_top, show min (ws.length * 6) ((w :: ws).length * 6) = ws.length * 6 by simp only [List.length_cons]; omega] at h7
   rw [h7, ← hl, List.take_left]
/-- A least number. -/
theorem least_nat (P : Nat → Prop) : ∀ n, P n → ∃ k, P k ∧ ∀ m, P m → k ≤ m := by
 intro n
 induction n using Nat.strongRecOn with
 | ind n ih =>
  intro hn
  by_cases h : ∃ m, m < n ∧ P m
  ·obtain ⟨m, h1, h2⟩ := h
   exact ih m h1 h2
  ·exact ⟨n, hn, fun m hm => Nat.le_of_not_lt fun hl => h ⟨m, hl, hm⟩⟩
theorem least_fn {α : Type} (I : Nat → α → Prop) : ∃ ms : α → Nat, ∀ x n, I n x → I (ms x) x ∧ ms x ≤ n := by
 have h : ∀ x, ∃ k, ∀ n, I n x → I k x ∧ k ≤ n := fun x => by
  by_cases h : ∃ n, I n x
  ·obtain ⟨n, hn⟩ := h
   obtain ⟨k, h1, h2⟩ := least_nat (fun n => I n x) n hn
   exact ⟨k, fun m hm => ⟨h1, h2 m hm⟩⟩
  ·exact ⟨0, fun n hn => absurd ⟨n, hn⟩ h⟩
 exact ⟨fun x => Classical.choose (h x), fun x n hn => Classical.choose_spec (h x) n hn⟩
theorem end_err {T : List Tok} {e : Nat × Int} (h : endM T = .error e) : wholeP T 16392 = .error e := by
 unfold endM at h
 unfold wholeP
 cases hq : gr T 16392 .expr ⟨0, 0, [], []⟩ with
 | error q => rw [hq, bnd_bad] at h; injection h with h; rw [bnd_bad, h]
 | ok q =>
  obtain ⟨k, s⟩ := q
  rw [hq, bnd_ok] at h
  rw [bnd_ok]
  by_cases hk : (tk T s.nx).kind = 0
  ·rw [if_pos hk] at h; cases h
  ·rw [if_neg hk] at h ⊢; exact congrArg _ (by injection h)
theorem end_ok {T : List Tok} {fr : List Int} {s : PS} (h : endM T = .ok (fr, s)) : wholeP T 16392 = if 1000 < s.ps.length then .error (123, s.os.getD 1000 0) else .ok ((), s) := by
 unfold endM at h
 unfold wholeP
 cases hq : gr T 16392 .expr ⟨0, 0, [], []⟩ with
 | error q => rw [hq] at h; cases h
 | ok q =>
  obtain ⟨k, s1⟩ := q
  rw [hq, bnd_ok] at h
  rw [bnd_ok]
  by_cases hk : (tk T s1.nx).kind = 0
  ·rw [if_pos hk] at h ⊢
   injection h with h
   injection h with _ h
   rw [h]
  ·rw [if_neg hk] at h; cases h
theorem info19 : (Tryz.prog.info? 35).map (·.size) = some 19 := by kernel_rfl
theorem res_rparse (tmps : Array Value) (w : World) (bt bf : Nat) (v : Value) (FC : Array Value) (h2 : tmps.getD 2 undef = .pointer (some ⟨bt, 0, none⟩)) (h4 : tmps.getD 4 undef = .pointer (some ⟨bf, 0, none⟩)) (hg : w.heap[bt]? = some (.cells #[v] 25 (0, 0))) (he : w.heap[bf]? = some (.cells FC 35 (0, 0))) (h9 : FC.size = 19) : (results Tryz.f11 tmps).run Tryz.prog w = .ok (.tuple #[.agg #[v], tmps.getD 3 undef, .agg FC]) w := by
 rw [results_ctc (fn := Tryz.f11) rfl, h2, h4]
 simp only [asAddr, Sem.run_pure, Result.andThen_ok, run_loadVar_row (P := Tryz.prog) w bt 25 25 #[v] (0, 0) _ hg Tryz.underlying25 rfl infoTr, run_loadVar_row (P := Tryz.prog) w bf 35 35 FC (0, 0) _ he str53 rfl (by rw [h9]; exact info19)]
/-- The machine as Parse makes it. -/
theorem MM.new {W : World} {B : Nat} {tv : Value} {T : List Tok} (hB : B ≤ W.heap.size) (h : OwnT W B tv T) (h0 : 0 < T.length) (hl : T.length ≤ 4097) (hf : ∀ k, k < T.length → (tk T k).kind ≠ 0 → k + 1 < T.length) : MM W.heap.size B tv T (W.alloc (.cells (mc tv 0 (.slice none 0 0) (.slice none 0 0) (.slice none 0 0) (.slice none 0 0) 0 (f19 0 0)) 71)) ⟨0, 0, [], []⟩ [] [] (f19 0 0) (.slice none 0 0) (.slice none 0 0) (.slice none 0 0) (.slice none 0 0) (fun _ => .slice none 0 0) := by
 refine ⟨heap_alloc_new W _, rfl, row_kept h (fun k hk => (belowA W _).block k (row_at h hk).2.1), World.ownsRow_nil _ _ _ _, ⟨World.ownsRow_nil _ _ _ _, fun j hj => absurd hj (by simp)⟩, World.ownsRow_nil _ _ _ _, World.ownsRow_nil _ _ _ _, hB, h0, by decide, hl, hf, fun j hj => absurd hj (by simp), fun j hj => absurd hj (by simp), fun k hk => by cases hk⟩
end Go.Proofs.YtcldglilhhhdoaaGreatDoor.L
